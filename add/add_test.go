package add

import (
	"math"
	"slices"
	"testing"

	"breadline/api"
	"breadline/draw"
	"breadline/mem"
	"breadline/pack"
)

var _ mem.Machine = (*Machine)(nil)

// word is a stripe's.
func word(version, value int) int {
	w, ok := pack.Word(version, value)
	if !ok {
		panic("no such word")
	}
	return w
}

func laid(l ...int) *mem.Mem {
	m := mem.New(len(l))
	for i, x := range l {
		m.Poke(i, x)
	}
	return m
}

func load(w, a int) api.Access       { return api.Access{Kind: api.Load, W: w, A: a} }
func plus(w, a, b int) api.Access    { return api.Access{Kind: api.Add, W: w, A: a, B: b} }
func swapped(w, a, b int) api.Access { return api.Access{Kind: api.Cas, W: w, A: a, B: b, Ok: true} }
func failed(w, a, b int) api.Access  { return api.Access{Kind: api.Cas, W: w, A: a, B: b} }

// written is one whole run, as the chapter's steps say it.
type written struct {
	name                           string
	words                          []int
	base, stripes, gate, d, thread int
	pokes                          []api.Poke
	log                            []api.Access
	end                            []int
}

func (c written) check(t *testing.T) {
	m := laid(c.words...)
	x := New(c.base, c.stripes, c.gate, c.d, c.thread)
	steps, last := mem.Play(m, x, c.pokes, 100)
	if steps != len(c.log) || !last {
		t.Errorf("%s: %d steps, %t; want %d", c.name, steps, last, len(c.log))
	}
	if got := m.Log(); !slices.Equal(got, c.log) {
		t.Errorf("%s: %v; want %v", c.name, got, c.log)
	}
	if got := m.Words(); !slices.Equal(got, c.end) {
		t.Errorf("%s: in the end %v; want %v", c.name, got, c.end)
	}
	if x.Ans() != (api.Ans{Err: api.OK}) {
		t.Errorf("%s: %v", c.name, x.Ans())
	}
}

// P6.1, of F1: steps 0, 1 and 2, of the chapter's example among them.
func TestKeptByAStripe(t *testing.T) {
	for _, c := range []written{
		{"the example", []int{0, 0, 0, 1, word(0, 2)}, 0, 1, 4, 1, 0, nil,
			[]api.Access{load(3, 1), load(4, 2), swapped(4, 2, word(1, 3))},
			[]int{0, 0, 0, 1, word(1, 3)}},
		{"down to just above the gate's other side", []int{9, 2, 2, 1, word(5, -2)}, 0, 1, 4, -1, 0, nil,
			[]api.Access{load(3, 1), load(4, word(5, -2)), swapped(4, word(5, -2), word(6, -3))},
			[]int{9, 2, 2, 1, word(6, -3)}},
		{"nothing is added, by a new version", []int{0, 0, 0, 1, word(7, 3)}, 0, 1, 4, 0, 0, nil,
			[]api.Access{load(3, 1), load(4, word(7, 3)), swapped(4, word(7, 3), word(8, 3))},
			[]int{0, 0, 0, 1, word(8, 3)}},
		{"a gate of 1 has room for nothing", []int{0, 0, 0, 1, 0}, 0, 1, 1, 0, 0, nil,
			[]api.Access{load(3, 1), load(4, 0), swapped(4, 0, word(1, 0))},
			[]int{0, 0, 0, 1, word(1, 0)}},
		{"across all that the gate leaves", []int{0, 0, 0, 1, word(1, -3)}, 0, 1, 4, 6, 0, nil,
			[]api.Access{load(3, 1), load(4, word(1, -3)), swapped(4, word(1, -3), word(2, 3))},
			[]int{0, 0, 0, 1, word(2, 3)}},
		{"behind the last version stands 0", []int{0, 0, 0, 1, word(1<<32-1, 1)}, 0, 1, 4, 1, 0, nil,
			[]api.Access{load(3, 1), load(4, word(1<<32-1, 1)), swapped(4, word(1<<32-1, 1), word(0, 2))},
			[]int{0, 0, 0, 1, word(0, 2)}},
		{"the greatest gate", []int{0, 0, 0, 1, 0}, 0, 1, 1 << 20, 1<<20 - 1, 0, nil,
			[]api.Access{load(3, 1), load(4, 0), swapped(4, 0, word(1, 1<<20-1))},
			[]int{0, 0, 0, 1, word(1, 1<<20-1)}},
		{"thread 0's first draw is odd", []int{0, 0, 0, 2, 0, 0}, 0, 2, 4, 1, 0, nil,
			[]api.Access{load(3, 2), load(5, 0), swapped(5, 0, word(1, 1))},
			[]int{0, 0, 0, 2, 0, word(1, 1)}},
		{"thread 1's first draw is even", []int{0, 0, 0, 2, 0, 0}, 0, 2, 4, 1, 1, nil,
			[]api.Access{load(3, 2), load(4, 0), swapped(4, 0, word(1, 1))},
			[]int{0, 0, 0, 2, word(1, 1), 0}},
		{"a stripe is drawn from those that are live", []int{0, 0, 0, 1, 0, 0}, 0, 2, 4, 1, 0, nil,
			[]api.Access{load(3, 1), load(4, 0), swapped(4, 0, word(1, 1))},
			[]int{0, 0, 0, 1, word(1, 1), 0}},
		{"a counter among other words", []int{8, 8, 0, 0, 0, 2, 0, 0, 8, 8}, 2, 2, 4, 1, 1, nil,
			[]api.Access{load(5, 2), load(6, 0), swapped(6, 0, word(1, 1))},
			[]int{8, 8, 0, 0, 0, 2, word(1, 1), 0, 8, 8}},
	} {
		c.check(t)
	}
}

// P6.1, of F1: steps 3 to 6, whenever the stripe's number would reach the gate, or go beyond it.
func TestBroughtToTheGlobalWord(t *testing.T) {
	left := func(was, empty, global, begun, done, v int) []api.Access {
		return []api.Access{load(3, 1), load(4, was), plus(1, 1, begun+1), swapped(4, was, empty), plus(0, v, global+v), plus(2, 1, done+1)}
	}
	for _, c := range []written{
		{"at the gate", []int{0, 0, 0, 1, word(0, 3)}, 0, 1, 4, 1, 0, nil,
			left(3, word(1, 0), 0, 0, 0, 4), []int{4, 1, 1, 1, word(1, 0)}},
		{"at the gate's other side", []int{9, 5, 5, 1, word(4, -3)}, 0, 1, 4, -1, 0, nil,
			left(word(4, -3), word(5, 0), 9, 5, 5, -4), []int{5, 6, 6, 1, word(5, 0)}},
		{"beyond it", []int{-1, 7, 6, 1, word(4, 2)}, 0, 1, 4, 1 << 20, 0, nil,
			left(word(4, 2), word(5, 0), -1, 7, 6, 1<<20+2), []int{1<<20 + 1, 8, 7, 1, word(5, 0)}},
		{"beyond its other side", []int{0, 0, 0, 1, word(4, 2)}, 0, 1, 4, -1 << 20, 0, nil,
			left(word(4, 2), word(5, 0), 0, 0, 0, -1<<20+2), []int{-1<<20 + 2, 1, 1, 1, word(5, 0)}},
		{"a gate of 1", []int{0, 0, 0, 1, 0}, 0, 1, 1, 1, 0, nil,
			left(0, word(1, 0), 0, 0, 0, 1), []int{1, 1, 1, 1, word(1, 0)}},
		{"the greatest gate", []int{0, 0, 0, 1, word(2, 1<<20-1)}, 0, 1, 1 << 20, 1 << 20, 0, nil,
			left(word(2, 1<<20-1), word(3, 0), 0, 0, 0, 1<<21-1), []int{1<<21 - 1, 1, 1, 1, word(3, 0)}},
		{"behind the last version stands 0", []int{0, 0, 0, 1, word(1<<32-1, 3)}, 0, 1, 4, 1, 0, nil,
			left(word(1<<32-1, 3), word(0, 0), 0, 0, 0, 4), []int{4, 1, 1, 1, word(0, 0)}},
	} {
		c.check(t)
	}
}

// P6.1, of F1: a stripe that was changed ahead of step 2, if only its version was.
func TestMissedWhatWouldBeKept(t *testing.T) {
	// The first draws of thread 0 are odd, odd and even: of two stripes the last one, twice, and then the first one.
	for _, c := range []written{
		{"step 8 comes, if not all stripes are live", []int{0, 0, 0, 1, 0, 0}, 0, 2, 4, 1, 0,
			[]api.Poke{{At: 2, W: 4, X: word(1, 0)}},
			[]api.Access{load(3, 1), load(4, 0), failed(4, 0, word(1, 1)), swapped(3, 1, 2),
				load(3, 2), load(5, 0), swapped(5, 0, word(1, 1))},
			[]int{0, 0, 0, 2, word(1, 0), word(1, 1)}},
		{"no step 8, if all are live", []int{0, 0, 0, 2, 0, 0}, 0, 2, 4, 1, 0,
			[]api.Poke{{At: 2, W: 5, X: word(1, 2)}},
			[]api.Access{load(3, 2), load(5, 0), failed(5, 0, word(1, 1)),
				load(3, 2), load(5, word(1, 2)), swapped(5, word(1, 2), word(2, 3))},
			[]int{0, 0, 0, 2, 0, word(2, 3)}},
		{"no step 8 of one stripe", []int{0, 0, 0, 1, 0}, 0, 1, 4, 1, 0,
			[]api.Poke{{At: 2, W: 4, X: word(9, 0)}},
			[]api.Access{load(3, 1), load(4, 0), failed(4, 0, word(1, 1)),
				load(3, 1), load(4, word(9, 0)), swapped(4, word(9, 0), word(10, 1))},
			[]int{0, 0, 0, 1, word(10, 1)}},
		{"another thread does step 8 first", []int{0, 0, 0, 1, 0, 0}, 0, 2, 4, 1, 0,
			[]api.Poke{{At: 2, W: 4, X: word(1, 0)}, {At: 3, W: 3, X: 2}},
			[]api.Access{load(3, 1), load(4, 0), failed(4, 0, word(1, 1)), failed(3, 1, 2),
				load(3, 2), load(5, 0), swapped(5, 0, word(1, 1))},
			[]int{0, 0, 0, 2, word(1, 0), word(1, 1)}},
		{"what is found the second time reaches the gate", []int{0, 0, 0, 1, 0}, 0, 1, 4, 1, 0,
			[]api.Poke{{At: 2, W: 4, X: word(1, 3)}},
			[]api.Access{load(3, 1), load(4, 0), failed(4, 0, word(1, 1)),
				load(3, 1), load(4, word(1, 3)), plus(1, 1, 1), swapped(4, word(1, 3), word(2, 0)), plus(0, 4, 4), plus(2, 1, 1)},
			[]int{4, 1, 1, 1, word(2, 0)}},
	} {
		c.check(t)
	}
}

// P6.1, of F1: a stripe that was changed ahead of step 4, if only its version was.
func TestMissedWhatWouldBeBrought(t *testing.T) {
	for _, c := range []written{
		{"step 8 comes behind step 7", []int{0, 0, 0, 1, 3, 0}, 0, 2, 4, 1, 0,
			[]api.Poke{{At: 3, W: 4, X: word(1, 3)}},
			[]api.Access{load(3, 1), load(4, 3), plus(1, 1, 1), failed(4, 3, word(1, 0)), plus(2, 1, 1), swapped(3, 1, 2),
				load(3, 2), load(5, 0), swapped(5, 0, word(1, 1))},
			[]int{0, 1, 1, 2, word(1, 3), word(1, 1)}},
		{"no step 8, if all are live", []int{0, 0, 0, 2, 0, 3}, 0, 2, 4, 1, 0,
			[]api.Poke{{At: 3, W: 5, X: word(2, 3)}},
			[]api.Access{load(3, 2), load(5, 3), plus(1, 1, 1), failed(5, 3, word(1, 0)), plus(2, 1, 1),
				load(3, 2), load(5, word(2, 3)), plus(1, 1, 2), swapped(5, word(2, 3), word(3, 0)), plus(0, 4, 4), plus(2, 1, 2)},
			[]int{4, 2, 2, 2, 0, word(3, 0)}},
		{"what others begin and end meanwhile is counted on", []int{0, 0, 0, 1, 3}, 0, 1, 4, 1, 0,
			[]api.Poke{{At: 2, W: 1, X: 6}, {At: 4, W: 0, X: 50}, {At: 5, W: 2, X: 3}},
			[]api.Access{load(3, 1), load(4, 3), plus(1, 1, 7), swapped(4, 3, word(1, 0)), plus(0, 4, 54), plus(2, 1, 4)},
			[]int{54, 7, 4, 1, word(1, 0)}},
	} {
		c.check(t)
	}
}

// numbered is the machine as the chapter writes it: a step's number, and what it says of the next one.
type numbered struct {
	base, s, gate, d, x int
	at, l, i, w, v      int
	ended               bool
}

func (r *numbered) miss() {
	r.at = 8
	if r.l >= r.s {
		r.x, r.at = draw.Next(r.x), 0
	}
}

func (r *numbered) next(value int) int {
	w, _ := pack.Next(r.w, value)
	return w
}

func (r *numbered) Step(m *mem.Mem) bool {
	stripe := r.base + 4 + r.i
	switch r.at {
	case 0:
		r.l = m.Load(r.base + 3)
		r.i, r.at = r.x%r.l, 1
	case 1:
		r.w = m.Load(stripe)
		r.v, r.at = pack.Value(r.w)+r.d, 3
		if r.v > -r.gate && r.v < r.gate {
			r.at = 2
		}
	case 2:
		if r.ended = m.Cas(stripe, r.w, r.next(r.v)); !r.ended {
			r.miss()
		}
	case 3:
		m.Add(r.base+1, 1)
		r.at = 4
	case 4:
		r.at = 7
		if m.Cas(stripe, r.w, r.next(0)) {
			r.at = 5
		}
	case 5:
		m.Add(r.base, r.v)
		r.at = 6
	case 6:
		m.Add(r.base+2, 1)
		r.ended = true
	case 7:
		m.Add(r.base+2, 1)
		r.miss()
	case 8:
		m.Cas(r.base+3, r.l, 2*r.l)
		r.x, r.at = draw.Next(r.x), 0
	}
	return r.ended
}

func (r *numbered) Ans() api.Ans { return api.Ans{} }

// drawer picks one of so many, always by the same row.
func drawer(thread int) func(many int) int {
	x := draw.Begin(thread)
	return func(many int) int {
		x = draw.Next(x)
		return draw.Pick(x, many)
	}
}

func powers(most int) []int {
	var l []int
	for n := 1; n <= most; n *= 2 {
		l = append(l, n)
	}
	return l
}

func within(pick func(int) int, gate int) int {
	edges := []int{0, gate - 1, 1 - gate, pick(2*gate-1) - (gate - 1)}
	return edges[pick(len(edges))]
}

func someVersion(pick func(int) int) int {
	return []int{0, 1, pick(1 << 20), 1<<32 - 1}[pick(4)]
}

func someAmount(pick func(int) int) int {
	return []int{0, 1, -1, 2, -3, 1 << 20, -1 << 20, pick(1<<20) - 1<<19}[pick(8)]
}

func someGate(pick func(int) int) int { return []int{1, 2, 4, 7, 1 << 10, 1 << 20}[pick(6)] }

// shape is a counter of so many stripes, behind some words that are not its own, and ahead of some.
type shape struct{ base, stripes, gate int }

func someShape(pick func(int) int) shape {
	return shape{pick(4), powers(8)[pick(4)], someGate(pick)}
}

func (s shape) fill(m *mem.Mem, pick func(int) int) {
	for w := range m.Len() {
		m.Poke(w, pick(1000)-500)
	}
	m.Poke(s.base+3, powers(s.stripes)[pick(len(powers(s.stripes)))])
	for i := range s.stripes {
		m.Poke(s.base+4+i, word(someVersion(pick), within(pick, s.gate)))
	}
}

func (s shape) size() int { return s.base + 4 + s.stripes + 3 }

// poke is what another thread may do at some time: a stripe stays within the gate, and live a power of two.
func (s shape) poke(pick func(int) int, until int) api.Poke {
	p := api.Poke{At: pick(until), W: s.base + pick(4+s.stripes)}
	switch behind := p.W - s.base; {
	case behind == 3:
		p.X = powers(s.stripes)[pick(len(powers(s.stripes)))]
	case behind > 3:
		p.X = word(someVersion(pick), within(pick, s.gate))
	default:
		p.X = pick(1000) - 500
	}
	return p
}

// P6.1, of F1: whatever others do, all accesses are those of the chapter's steps.
func TestAsNumberedSteps(t *testing.T) {
	pick := drawer(3)
	for round := range 4000 {
		s, d, thread := someShape(pick), someAmount(pick), pick(1001)
		m := mem.New(s.size())
		s.fill(m, pick)
		other := laid(m.Words()...)
		var l []api.Poke
		for range pick(60) {
			l = append(l, s.poke(pick, 40))
		}
		want := &numbered{base: s.base, s: s.stripes, gate: s.gate, d: d, x: draw.Begin(thread)}
		steps, last := mem.Play(m, New(s.base, s.stripes, s.gate, d, thread), l, 200)
		wantSteps, wantLast := mem.Play(other, want, l, 200)
		if steps != wantSteps || last != wantLast || !slices.Equal(m.Log(), other.Log()) || !slices.Equal(m.Words(), other.Words()) {
			t.Fatalf("round %d, %+v, add %d, thread %d: %d, %t, %v; want %d, %t, %v", round, s, d, thread, steps, last, m.Log(), wantSteps, wantLast, other.Log())
		}
		if len(m.Log()) != steps || !last {
			t.Fatalf("round %d: %d steps, %d accesses, ended: %t", round, steps, len(m.Log()), last)
		}
	}
}

// P6.1, of F1: a thread's first stripe is drawn by its first draw, the last thread's too.
func TestFirstStripes(t *testing.T) {
	for thread := range 1001 {
		for _, live := range powers(8) {
			m := laid(0, 0, 0, live, 0, 0, 0, 0, 0, 0, 0, 0)
			x := New(0, 8, 4, 1, thread)
			x.Step(m)
			x.Step(m)
			if w, want := m.Log()[1].W, 4+draw.Begin(thread)%live; w != want {
				t.Errorf("thread %d, %d live: word %d; want %d", thread, live, w, want)
			}
		}
	}
}

// P6.1, of F1: whenever it misses, the next stripe is drawn by the next draw, and stripes come to live till all are.
func TestMissedAgainAndAgain(t *testing.T) {
	m := laid(0, 0, 0, 1, 0, 0, 0, 0, 0, 0, 0, 0)
	x, drawn, live := New(0, 8, 4, 1, 7), draw.Begin(7), 1
	for try := range 50 {
		x.Step(m)
		x.Step(m)
		l := m.Log()
		if found := l[len(l)-1]; found.W != 4+drawn%live {
			t.Fatalf("try %d: %+v; want stripe %d", try, found, drawn%live)
		}
		m.Poke(4+drawn%live, word(try+1, 0))
		if x.Step(m) {
			t.Fatalf("try %d is the last one", try)
		}
		if live < 8 {
			x.Step(m)
			live *= 2
		}
		drawn = draw.Next(drawn)
		if m.Words()[3] != live {
			t.Fatalf("try %d: %v; want %d live", try, m.Words(), live)
		}
	}
}

// P6.1, of F1: only the last Step tells true; behind it nothing is done, and true is told; the answer is a zero one throughout.
func TestStepsBehindTheLast(t *testing.T) {
	for _, c := range []struct{ d, steps int }{{1, 3}, {4, 6}, {-4, 6}, {0, 3}} {
		m := laid(0, 0, 0, 1, 0)
		x := New(0, 1, 4, c.d, 0)
		for step := 1; step <= c.steps+4; step++ {
			if x.Ans() != (api.Ans{}) {
				t.Errorf("add %d, ahead of step %d: %v", c.d, step, x.Ans())
			}
			last := x.Step(m)
			if last != (step >= c.steps) || len(m.Log()) != min(step, c.steps) {
				t.Errorf("add %d, step %d: %t, %d accesses", c.d, step, last, len(m.Log()))
			}
		}
		if x.Ans() != (api.Ans{}) || Sum(m, 0, 1) != c.d {
			t.Errorf("add %d: %v, sum %d", c.d, x.Ans(), Sum(m, 0, 1))
		}
	}
}

// P6.1, of F2: sums written out; versions, begun, done and live are no part of them, nor are words of others.
func TestSum(t *testing.T) {
	for _, c := range []struct {
		words         []int
		base, stripes int
		want          int
	}{
		{[]int{0, 0, 0, 1, 0}, 0, 1, 0},
		{[]int{5, 100, 200, 1, word(0, 3)}, 0, 1, 8},
		{[]int{5, 100, 200, 1, word(77, -3)}, 0, 1, 2},
		{[]int{-5, 100, 200, 1, word(1<<32-1, -1), word(9, 2)}, 0, 2, -4},
		{[]int{5, 100, 200, 1, 1, 2, 3, 4}, 0, 4, 15},
		{[]int{5, 100, 200, 1, 1, 2, 3, 4, 5, 6, 7, 8}, 0, 8, 41},
		{[]int{5, 100, 200, 1, 1, 2, 3, 4, 5, 6, 7, 8}, 0, 1, 6},
		{[]int{9, 9, 9, 5, 100, 200, 1, 1, 2, 30, 40}, 3, 2, 8},
		{[]int{9, 5, 1, 1, 1, word(3, 1<<31-1), word(4, -1<<31), 40}, 1, 2, 4},
		{[]int{math.MaxInt, 0, 0, 1, 1}, 0, 1, math.MinInt},
		{[]int{math.MinInt, 0, 0, 1, word(0, -1), word(8, -1)}, 0, 2, math.MaxInt - 1},
		{[]int{0, 0, 0, 1, math.MaxInt, math.MinInt}, 0, 2, -1},
		{[]int{7, 0, 0, math.MinInt, -1}, 0, 1, 6},
	} {
		m := laid(c.words...)
		if got := Sum(m, c.base, c.stripes); got != c.want {
			t.Errorf("%v, base %d, %d stripes: %d; want %d", c.words, c.base, c.stripes, got, c.want)
		}
		if len(m.Log()) != 0 || !slices.Equal(m.Words(), c.words) {
			t.Errorf("%v: a sum alters them to %v, by %v", c.words, m.Words(), m.Log())
		}
	}
}

// alone adds d on a counter that nobody else uses, and tells how many accesses there were.
func alone(t *testing.T, m *mem.Mem, s shape, d, thread int) int {
	was, sum, before := m.Words(), Sum(m, s.base, s.stripes), len(m.Log())
	steps, last := mem.Play(m, New(s.base, s.stripes, s.gate, d, thread), nil, 7)
	if !last || steps > 6 || len(m.Log())-before != steps || Sum(m, s.base, s.stripes) != sum+d {
		t.Errorf("%+v, %v, add %d: %d steps, %t; the sum was %d, is %d", s, was, d, steps, last, sum, Sum(m, s.base, s.stripes))
	}
	is := m.Words()
	for w := range is {
		own := w >= s.base && w < s.base+4+s.stripes
		if !own && is[w] != was[w] || w == s.base+3 && is[w] != was[w] {
			t.Errorf("%+v, %v, add %d: word %d is %d", s, was, d, w, is[w])
		}
	}
	if b := s.base; is[b+1]-is[b+2] != was[b+1]-was[b+2] {
		t.Errorf("%+v, %v, add %d: begun %d, done %d", s, was, d, is[b+1], is[b+2])
	}
	return steps
}

// P6.2: at the gates' edges and all amounts', one behind the other too.
func TestAlone(t *testing.T) {
	pick := drawer(5)
	for range 3000 {
		s := someShape(pick)
		m := mem.New(s.size())
		s.fill(m, pick)
		for range 4 {
			alone(t, m, s, someAmount(pick), pick(1001))
		}
	}
}

// P6.2: three accesses where the gate is not reached, six where it is: all numbers of a small gate.
func TestAloneAtAllNumbers(t *testing.T) {
	for gate := 1; gate <= 5; gate++ {
		for value := 1 - gate; value < gate; value++ {
			for d := -12; d <= 12; d++ {
				s, want := shape{0, 1, gate}, 3
				if v := value + d; v <= -gate || v >= gate {
					want = 6
				}
				if steps := alone(t, laid(0, 0, 0, 1, word(1, value), 0, 0, 0), s, d, 0); steps != want {
					t.Errorf("gate %d, a stripe of %d, add %d: %d accesses; want %d", gate, value, d, steps, want)
				}
			}
		}
	}
}

func checkGate(t *testing.T, m *mem.Mem, s shape) {
	t.Helper()
	for i, w := range m.Words()[s.base+4 : s.base+4+s.stripes] {
		if v := pack.Value(w); v <= -s.gate || v >= s.gate {
			t.Fatalf("%+v: stripe %d is %d, behind %v", s, i, v, m.Log())
		}
	}
}

// P6.3: others poke whatever leaves stripes within the gate, ahead of each access.
func TestWithinTheGate(t *testing.T) {
	pick := drawer(8)
	for range 1500 {
		s := someShape(pick)
		m := mem.New(s.size())
		s.fill(m, pick)
		x := New(s.base, s.stripes, s.gate, someAmount(pick), pick(1001))
		for range 60 {
			for range pick(3) {
				p := s.poke(pick, 1)
				m.Poke(p.W, p.X)
			}
			last := x.Step(m)
			checkGate(t, m, s)
			if live := m.Words()[s.base+3]; !slices.Contains(powers(s.stripes), live) {
				t.Fatalf("%+v: %d live, behind %v", s, live, m.Log())
			}
			if last {
				break
			}
		}
	}
}

// together has threads step by a row of turns, and checks what always holds: nothing is lost or made, but what is brought is on its way.
func together(t *testing.T, s shape, amounts []int, turn func() int) {
	m := mem.New(s.size())
	m.Poke(s.base+3, 1)
	threads := make([]*Machine, len(amounts))
	all, left := 0, len(amounts)
	for i, d := range amounts {
		threads[i] = New(s.base, s.stripes, s.gate, d, i)
		all += d
	}
	ended := make([]bool, len(amounts))
	for steps := 0; left > 0; steps++ {
		i := turn()
		if ended[i] {
			continue
		}
		if threads[i].Step(m) {
			ended[i] = true
			left--
		}
		checkGate(t, m, s)
		if w := m.Words(); w[s.base+1] < w[s.base+2] || w[s.base+1]-w[s.base+2] > len(amounts) {
			t.Fatalf("begun %d, done %d", w[s.base+1], w[s.base+2])
		}
		if steps > 100000 {
			t.Fatalf("%+v, %v: no end", s, amounts)
		}
	}
	w := m.Words()
	if Sum(m, s.base, s.stripes) != all || w[s.base+1] != w[s.base+2] {
		t.Errorf("%+v, %v: %v, of which the sum is %d; want %d", s, amounts, w, Sum(m, s.base, s.stripes), all)
	}
}

// P6.2 and P6.3: two threads, by all turns.
func TestTwoTogether(t *testing.T) {
	for turns := range 1 << 12 {
		for _, amounts := range [][]int{{1, 1}, {3, -2}, {5, 5}, {1, 9}} {
			for _, stripes := range []int{1, 2} {
				n := 0
				together(t, shape{0, stripes, 3}, amounts, func() int {
					n++
					return turns>>((n-1)%12)&1 ^ (n-1)/12&1
				})
			}
		}
	}
}

// P6.2 and P6.3: many threads, by drawn turns.
func TestManyTogether(t *testing.T) {
	pick := drawer(9)
	for range 600 {
		s := someShape(pick)
		amounts := make([]int, 1+pick(8))
		for i := range amounts {
			amounts[i] = someAmount(pick)
		}
		together(t, s, amounts, func() int { return pick(len(amounts)) })
	}
}

// P3: machines stand apart, and what one does hangs on what it was given alone.
func TestMachinesStandApart(t *testing.T) {
	a, b := New(0, 2, 4, 1, 0), New(0, 2, 4, 3, 0)
	first, second := laid(0, 0, 0, 1, 0, 0), laid(0, 0, 0, 1, 0, 0)
	for range 3 {
		a.Step(first)
		b.Step(second)
	}
	if !slices.Equal(first.Words(), []int{0, 0, 0, 1, word(1, 1), 0}) || !slices.Equal(second.Words(), []int{0, 0, 0, 1, word(1, 3), 0}) {
		t.Errorf("%v, %v", first.Words(), second.Words())
	}
	again := laid(0, 0, 0, 1, 0, 0)
	mem.Play(again, New(0, 2, 4, 1, 0), nil, 9)
	if !slices.Equal(again.Log(), first.Log()) {
		t.Errorf("asked again: %v; the first time %v", again.Log(), first.Log())
	}
}

// Numbers of which nothing is said, and ordinary ones.
func anyNumbers() []int {
	return []int{math.MinInt, -1 << 31, -5, -1, 0, 1, 3, 8, 1001, 1 << 40, math.MaxInt}
}

// Nothing is said of other numbers, and words, but all calls end, and none panics.
func TestWrongInputsEnd(t *testing.T) {
	mems := func() []*mem.Mem {
		return []*mem.Mem{nil, mem.New(0), laid(4), laid(0, 0, 0, 1, 0), laid(1, 2, 3, 0, 5, 6), laid(1, 2, 3, -4, 5, 6), laid(0, 0, 0, math.MaxInt, math.MinInt)}
	}
	for _, a := range anyNumbers() {
		for _, b := range anyNumbers() {
			for _, m := range mems() {
				Sum(m, a, b)
				mem.Play(m, New(a, b, 4, 1, 0), nil, 30)
				mem.Play(m, New(0, 2, a, b, 0), nil, 30)
				mem.Play(m, New(0, a, 4, 1, b), nil, 30)
			}
		}
	}
	for _, x := range []*Machine{nil, {}} {
		if !x.Step(laid(0, 0, 0, 1, 0)) || x.Ans() != (api.Ans{}) {
			t.Error("a machine of nothing goes on, or answers")
		}
	}
}
