package slot

import (
	"math"
	"testing"

	"breadline/api"
	"breadline/pack"
	"breadline/state"
)

const (
	maxVersion = 1<<32 - 1
	maxHandle  = 1<<36 - 1
	minValue   = -1 << 31
	maxValue   = 1<<31 - 1
)

// word is the one of a version and a value, which pack has right.
func word(t *testing.T, version int, value int) int {
	t.Helper()
	w, ok := pack.Word(version, value)
	if !ok {
		t.Fatalf("no word of %d and %d", version, value)
	}
	return w
}

// Both edges, their neighbours, and ordinary ones between.
func versions() []int {
	return []int{0, 1, 2, 15, 16, 77, 1<<28 - 1, 1 << 28, 1<<31 - 1, 1 << 31, maxVersion - 1, maxVersion}
}

func amounts() []int {
	return []int{1, 2, 3, 1000, 1<<19 - 1, 1 << 19, api.MaxAmount - 1, api.MaxAmount}
}

func wrongAmounts() []int {
	return []int{0, -1, api.MaxAmount + 1, 1 << 21, 1<<21 + 1, -1 << 21, 1 << 62, math.MinInt, math.MaxInt}
}

func wrongNodes() []int {
	return []int{-1, -2, api.MaxNodes, api.MaxNodes + 1, 15, 16, 1 << 42, 1<<43 + 1, 1 << 62, math.MinInt, math.MaxInt}
}

func wrongTickets() []int {
	return []int{-1, -2, -16, api.MaxTickets, api.MaxTickets + 1, 32, 1 << 36, 1 << 60, 1 << 62, math.MinInt, math.MaxInt}
}

// Words of all kinds of bits, those that nobody needs have made among them.
func anyWords() []int {
	l := []int{0, 1, -1, 3, 35, math.MinInt, math.MaxInt, 0x0123456789abcdef, -0x0123456789abcdef}
	for i := range 64 {
		l = append(l, 1<<i, 1<<i-1, 1<<i+1, -1<<i, ^(1 << i))
	}
	return l
}

// The states' numbers are the document's, as all layers take them from there.
func TestStatesNumbers(t *testing.T) {
	if l := [4]state.State{state.Free, state.Busy, state.Live, state.Ending}; l != [4]state.State{0, 1, 2, 3} {
		t.Errorf("free, busy, live and ending are %v", l)
	}
}

// P10.1, of J1: a state is a word's value, whatever its version, and -1 if that is none.
func TestState(t *testing.T) {
	for _, version := range versions() {
		for value, want := range map[int]int{
			0: 0, 1: 1, 2: 2, 3: 3,
			4: -1, 5: -1, 255: -1, 256: -1, 1 << 16: -1, maxValue: -1,
			-1: -1, -2: -1, -4: -1, minValue: -1, minValue + 1: -1, minValue + 3: -1,
		} {
			if got := State(word(t, version, value)); got != want {
				t.Errorf("version %d and value %d tell state %d; want %d", version, value, got, want)
			}
		}
	}
}

// P10.1, of J1: of any word, asked by its lower 32 bits.
func TestStateOfAnyWord(t *testing.T) {
	for _, w := range anyWords() {
		want := -1
		if low := uint32(w); low <= 3 {
			want = int(low)
		}
		if got := State(w); got != want {
			t.Errorf("word %d tells state %d; want %d", w, got, want)
		}
	}
}

// P10.1, of J1: one version on, with any state behind any, and 0 behind the last version.
func TestTurn(t *testing.T) {
	for _, c := range []struct{ version, value, to, want int }{
		{0, 0, 1, 1<<32 + 1},
		{1, 1, 2, 2<<32 + 2},
		{5, 1, 0, 6 << 32},
		{5, 3, 3, 6<<32 + 3},
		{6, -1, 2, 7<<32 + 2},
		{7, maxValue, 0, 8 << 32},
		{8, minValue, 1, 9<<32 + 1},
		{1<<31 - 1, 0, 1, math.MinInt + 1},
		{maxVersion - 1, 2, 3, -1<<32 + 3},
		{maxVersion, 3, 0, 0},
		{maxVersion, -1, 2, 2},
	} {
		if w, ok := Turn(word(t, c.version, c.value), c.to); w != c.want || !ok {
			t.Errorf("version %d and value %d turn to %d as %d, %t; want %d, true", c.version, c.value, c.to, w, ok, c.want)
		}
	}
	for _, w := range anyWords() {
		for to := range 4 {
			next, ok := Turn(w, to)
			if want, _ := pack.Next(w, to); next != want || !ok || State(next) != to {
				t.Errorf("word %d turns to %d as %d, %t, of state %d; want %d", w, to, next, ok, State(next), want)
			}
		}
	}
}

// P10.1, of J1, and P2: what is no state is not turned to, though it may be a value.
func TestTurnRefuses(t *testing.T) {
	for _, w := range anyWords() {
		for _, to := range []int{-1, -2, -4, 4, 5, 7, 256, maxValue, minValue, 1 << 32, 1<<32 + 1, 1<<33 + 2, 1 << 62, math.MinInt, math.MaxInt} {
			if next, ok := Turn(w, to); next != 0 || ok {
				t.Errorf("word %d turns to %d as %d, %t; want 0, false", w, to, next, ok)
			}
		}
	}
}

// P10.1, of J2: a tenant times 2^21, and an amount.
func TestBody(t *testing.T) {
	for _, c := range []struct{ node, n, want int }{
		{0, 1, 1},
		{0, api.MaxAmount, 1048576},
		{1, 1, 2097153},
		{3, 6, 6291462},
		{11, 1, 23068673},
		{11, api.MaxAmount, 24117248},
	} {
		if w, ok := Body(c.node, c.n); w != c.want || !ok {
			t.Errorf("Body(%d, %d) is %d, %t; want %d, true", c.node, c.n, w, ok, c.want)
		}
		if node, n, ok := Of(c.want); node != c.node || n != c.n || !ok {
			t.Errorf("body word %d is of %d, %d, %t; want %d, %d, true", c.want, node, n, ok, c.node, c.n)
		}
	}
}

// P10.1, of J2, and P2: with either wrong, or both, also where the number would be another's body word.
func TestBodyRefuses(t *testing.T) {
	refused := func(node int, n int) {
		if w, ok := Body(node, n); w != 0 || ok {
			t.Errorf("Body(%d, %d) is %d, %t; want 0, false", node, n, w, ok)
		}
	}
	for _, node := range wrongNodes() {
		for _, n := range append(amounts(), wrongAmounts()...) {
			refused(node, n)
		}
	}
	for node := range api.MaxNodes {
		for _, n := range wrongAmounts() {
			refused(node, n)
		}
	}
}

// P10.1, of J2, and P2: any word is asked by arithmetic; what is no body word is of nothing.
func TestOfAnyWord(t *testing.T) {
	l := anyWords()
	for node := range 20 {
		for _, n := range append(amounts(), wrongAmounts()...) {
			l = append(l, node<<21+n, -(node<<21 + n), node<<22+n, 1<<32+node<<21+n)
		}
	}
	for _, w := range l {
		node, n, ok := Of(w)
		if w > 0 && w/(1<<21) < api.MaxNodes && w%(1<<21) >= 1 && w%(1<<21) <= api.MaxAmount {
			if node != w/(1<<21) || n != w%(1<<21) || !ok {
				t.Errorf("body word %d is of %d, %d, %t", w, node, n, ok)
			}
		} else if node != 0 || n != 0 || ok {
			t.Errorf("word %d is of %d, %d, %t; want 0, 0, false", w, node, n, ok)
		}
	}
}

// P10.1, of J3: a version times 16, and the ticket; the word's value is not looked at.
func TestHandle(t *testing.T) {
	for _, c := range []struct{ ticket, version, want int }{
		{0, 0, 0},
		{3, 2, 35},
		{15, 0, 15},
		{0, 1, 16},
		{15, 1, 31},
		{7, 1 << 31, 1<<35 + 7},
		{0, maxVersion, maxHandle - 15},
		{15, maxVersion, maxHandle},
	} {
		for _, value := range []int{0, 1, 2, 3, 4, -1, minValue, maxValue} {
			if h, ok := Handle(c.ticket, word(t, c.version, value)); h != c.want || !ok {
				t.Errorf("ticket %d of version %d, value %d, is handle %d, %t; want %d, true", c.ticket, c.version, value, h, ok, c.want)
			}
		}
		if ticket, version, ok := Named(c.want, api.MaxTickets); ticket != c.ticket || version != c.version || !ok {
			t.Errorf("handle %d names %d, %d, %t; want %d, %d, true", c.want, ticket, version, ok, c.ticket, c.version)
		}
	}
}

// P10.1, of J3, and P2.
func TestHandleRefuses(t *testing.T) {
	for _, ticket := range wrongTickets() {
		for _, w := range anyWords() {
			if h, ok := Handle(ticket, w); h != 0 || ok {
				t.Errorf("ticket %d has handle %d, %t, of word %d; want 0, false", ticket, h, ok, w)
			}
		}
	}
}

// P10.1, of J3, and P2: of each number of tickets, any number, asked by arithmetic.
func TestNamed(t *testing.T) {
	l := append(anyWords(), maxHandle-16, maxHandle-15, maxHandle+2, maxHandle+16, -16, -17, -35, -maxHandle)
	for tickets := 1; tickets <= api.MaxTickets; tickets++ {
		for _, h := range append(l, tickets-1, tickets, 16+tickets-1, 16+tickets, maxHandle-16+tickets, maxHandle-15+tickets) {
			ticket, version, ok := Named(h, tickets)
			if h >= 0 && h%16 < tickets && h/16 <= maxVersion {
				if ticket != h%16 || version != h/16 || !ok {
					t.Errorf("handle %d of %d tickets names %d, %d, %t", h, tickets, ticket, version, ok)
				}
			} else if ticket != 0 || version != 0 || ok {
				t.Errorf("handle %d of %d tickets names %d, %d, %t; want 0, 0, false", h, tickets, ticket, version, ok)
			}
		}
	}
}

// P10.2: a tenant and an amount come back out of their body word, and unlike ones have unlike words.
func TestBodiesComeBack(t *testing.T) {
	type of struct{ node, n int }
	had := map[int]of{}
	for node := range api.MaxNodes {
		for _, n := range amounts() {
			w, ok := Body(node, n)
			v, many, is := Of(w)
			if !ok || !is || v != node || many != n {
				t.Errorf("Body(%d, %d) is %d, %t, of %d, %d, %t", node, n, w, ok, v, many, is)
			}
			if other, is := had[w]; is {
				t.Errorf("%v and %v have one body word, %d", other, of{node, n}, w)
			}
			had[w] = of{node, n}
		}
	}
	for _, w := range anyWords() {
		if node, n, ok := Of(w); ok {
			if back, is := Body(node, n); back != w || !is {
				t.Errorf("body word %d comes back as %d, %t", w, back, is)
			}
		}
	}
}

// P10.2: a ticket and a version come back out of their handle, where there are more tickets than that one, and unlike ones have unlike handles.
func TestHandlesComeBack(t *testing.T) {
	type of struct{ ticket, version int }
	had := map[int]of{}
	for ticket := range api.MaxTickets {
		for _, version := range versions() {
			h, ok := Handle(ticket, word(t, version, 2))
			if other, is := had[h]; is || !ok {
				t.Errorf("%v and %v have one handle, %d, %t", other, of{ticket, version}, h, ok)
			}
			had[h] = of{ticket, version}
			for tickets := 1; tickets <= api.MaxTickets; tickets++ {
				if k, v, is := Named(h, tickets); is != (ticket < tickets) || is && (of{k, v} != of{ticket, version}) {
					t.Errorf("handle %d of %v names, of %d tickets, %d, %d, %t", h, of{ticket, version}, tickets, k, v, is)
				}
			}
		}
	}
	for _, h := range anyWords() {
		if ticket, version, ok := Named(h, api.MaxTickets); ok {
			if back, is := Handle(ticket, word(t, version, 0)); back != h || !is {
				t.Errorf("handle %d comes back as %d, %t", h, back, is)
			}
		}
	}
}

// P1 and P3: at all numbers, those of which nothing is said among them, the calls end, and answer the same when asked again.
func TestAnswersHangOnArgumentsAlone(t *testing.T) {
	type answers struct {
		state, turn, body, node, n, handle, ticket, version int
		turnOk, bodyOk, ofOk, handleOk, namedOk             bool
	}
	ask := func(a, b int) answers {
		x := answers{state: State(a)}
		x.turn, x.turnOk = Turn(a, b)
		x.body, x.bodyOk = Body(a, b)
		x.node, x.n, x.ofOk = Of(a)
		x.handle, x.handleOk = Handle(a, b)
		x.ticket, x.version, x.namedOk = Named(a, b)
		return x
	}
	l := append(anyWords(), append(wrongTickets(), wrongAmounts()...)...)
	first := map[[2]int]answers{}
	for _, a := range l {
		for _, b := range l {
			first[[2]int{a, b}] = ask(a, b)
		}
	}
	for k, x := range first {
		if again := ask(k[0], k[1]); again != x {
			t.Errorf("%v: %v, and when asked again %v", k, x, again)
		}
	}
}
