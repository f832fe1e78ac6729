package mem

import (
	"math"
	"slices"
	"testing"

	"breadline/api"
)

// Both ends of an int, and ordinary ones.
func someNumbers() []int {
	return []int{0, 1, -1, 2, 5, -7, 1 << 20, -1 << 31, 1<<33 - 1, 1 << 40, math.MinInt, math.MinInt + 1, math.MaxInt - 1, math.MaxInt}
}

// Words that there are not, of so many.
func noWords(n int) []int { return []int{-1, -2, n, n + 1, 10000, math.MinInt, math.MaxInt} }

func laid(l ...int) *Mem {
	m := New(len(l))
	for i, x := range l {
		m.Poke(i, x)
	}
	return m
}

// step is one access, and what it answered.
type step struct {
	kind, w, a, b int
	n             int
	ok            bool
}

func (s step) do(m *Mem) step {
	switch s.kind {
	case api.Load:
		s.n = m.Load(s.w)
	case api.Add:
		s.n = m.Add(s.w, s.a)
	case api.Cas:
		s.ok = m.Cas(s.w, s.a, s.b)
	case api.Store:
		m.Store(s.w, s.a)
	}
	return s
}

// A long row of accesses of all kinds to few words, many a Cas among them one that is done.
func manySteps(words int) []step {
	var l []step
	x := 1
	drawn := func(many int) int {
		x = x * 48271 % (1<<31 - 1)
		return x % many
	}
	for range 3000 {
		s := step{kind: 1 + drawn(4), w: drawn(words), a: drawn(5) - 2, b: drawn(5) - 2}
		if drawn(20) == 0 {
			s.a = someNumbers()[drawn(len(someNumbers()))]
		}
		l = append(l, s)
	}
	return l
}

// asked is a machine that does a row of accesses, a Step each, and sees all words ahead of each Step.
type asked struct {
	row   []step
	done  int
	extra int
	seen  [][]int
}

func (x *asked) Step(m *Mem) bool {
	x.seen = append(x.seen, m.Words())
	if x.done == len(x.row) {
		x.extra++
		return true
	}
	x.row[x.done].do(m)
	x.done++
	return x.done == len(x.row)
}

func (x *asked) Ans() api.Ans { return api.Ans{N: x.done} }

// so many loads of word 0, which alter nothing.
func loads(many int) *asked { return &asked{row: slices.Repeat([]step{{kind: api.Load}}, many)} }

// P3.1, of C1: so many words, all 0, and no accesses, at both edges and between.
func TestNewIsAllNoughts(t *testing.T) {
	for _, n := range []int{0, 1, 2, 3, 296, 9999, 10000} {
		m := New(n)
		if m.Len() != n || len(m.Words()) != n || len(m.Log()) != 0 {
			t.Errorf("New(%d) has %d words, tells %d, and %d accesses", n, m.Len(), len(m.Words()), len(m.Log()))
		}
		for i, x := range m.Words() {
			if x != 0 || m.Load(i) != 0 {
				t.Errorf("word %d of New(%d) is %d", i, n, x)
			}
		}
	}
}

// P3.1, of C1: a poke sets one word, the first and the last one too, and is no access.
func TestPoke(t *testing.T) {
	m := New(4)
	want := make([]int, 4)
	for i := range want {
		for _, x := range someNumbers() {
			m.Poke(i, x)
			want[i] = x
			if !slices.Equal(m.Words(), want) || len(m.Log()) != 0 {
				t.Errorf("word %d poked to %d: %v, %v", i, x, m.Words(), m.Log())
			}
		}
	}
	if m.Len() != 4 {
		t.Errorf("poked, there are %d words", m.Len())
	}
}

// P3.1, of C2: what each access answers, and what the words are behind it.
func TestAccesses(t *testing.T) {
	for _, c := range []struct {
		at   []int
		s    step
		n    int
		ok   bool
		want []int
	}{
		{[]int{5, 6, 7}, step{kind: api.Load, w: 0}, 5, false, []int{5, 6, 7}},
		{[]int{5, 6, 7}, step{kind: api.Load, w: 2}, 7, false, []int{5, 6, 7}},
		{[]int{math.MinInt}, step{kind: api.Load, w: 0}, math.MinInt, false, []int{math.MinInt}},
		{[]int{5, 6, 7}, step{kind: api.Add, w: 1, a: 3}, 9, false, []int{5, 9, 7}},
		{[]int{5, 6, 7}, step{kind: api.Add, w: 2, a: -10}, -3, false, []int{5, 6, -3}},
		{[]int{5, 6, 7}, step{kind: api.Add, w: 0, a: 0}, 5, false, []int{5, 6, 7}},
		{[]int{math.MaxInt}, step{kind: api.Add, w: 0, a: 1}, math.MinInt, false, []int{math.MinInt}},
		{[]int{math.MinInt}, step{kind: api.Add, w: 0, a: -1}, math.MaxInt, false, []int{math.MaxInt}},
		{[]int{-1}, step{kind: api.Add, w: 0, a: math.MinInt}, math.MaxInt, false, []int{math.MaxInt}},
		{[]int{5, 6, 7}, step{kind: api.Cas, w: 0, a: 5, b: 7}, 0, true, []int{7, 6, 7}},
		{[]int{5, 6, 7}, step{kind: api.Cas, w: 2, a: 7, b: -1}, 0, true, []int{5, 6, -1}},
		{[]int{5, 6, 7}, step{kind: api.Cas, w: 1, a: 5, b: 9}, 0, false, []int{5, 6, 7}},
		{[]int{5, 6, 7}, step{kind: api.Cas, w: 1, a: 9, b: 6}, 0, false, []int{5, 6, 7}},
		{[]int{5, 6, 7}, step{kind: api.Cas, w: 1, a: 6, b: 6}, 0, true, []int{5, 6, 7}},
		{[]int{0, 0}, step{kind: api.Cas, w: 1, a: 0, b: math.MaxInt}, 0, true, []int{0, math.MaxInt}},
		{[]int{1}, step{kind: api.Cas, w: 0, a: 1<<32 + 1, b: 2}, 0, false, []int{1}},
		{[]int{5, 6, 7}, step{kind: api.Store, w: 0, a: 9}, 0, false, []int{9, 6, 7}},
		{[]int{5, 6, 7}, step{kind: api.Store, w: 2, a: math.MinInt}, 0, false, []int{5, 6, math.MinInt}},
		{[]int{5, 6, 7}, step{kind: api.Store, w: 1, a: 6}, 0, false, []int{5, 6, 7}},
	} {
		m := laid(c.at...)
		got := c.s.do(m)
		if got.n != c.n || got.ok != c.ok || !slices.Equal(m.Words(), c.want) {
			t.Errorf("%v, %+v: %d, %t, %v; want %d, %t, %v", c.at, c.s, got.n, got.ok, m.Words(), c.n, c.ok, c.want)
		}
		if m.Len() != len(c.at) || len(m.Log()) != 1 {
			t.Errorf("%v, %+v: %d words, %v", c.at, c.s, m.Len(), m.Log())
		}
	}
}

// P3.1, of C2: the chapter's example.
func TestCasTwice(t *testing.T) {
	m := laid(5)
	if first, second := m.Cas(0, 5, 7), m.Cas(0, 5, 7); !first || second || m.Load(0) != 7 {
		t.Errorf("%t, %t, and then %d", first, second, m.Load(0))
	}
}

// P3.1, of C2: Add and Cas go by all of a number, at its ends too.
func TestAddAndCasOfAnyNumbers(t *testing.T) {
	for _, is := range someNumbers() {
		for _, x := range someNumbers() {
			m := laid(3, is, 4)
			if sum := m.Add(1, x); sum != is+x || m.Load(1) != is+x {
				t.Errorf("%d, and %d more: %d, and then %d", is, x, sum, m.Load(1))
			}
			m = laid(3, is, 4)
			if done := m.Cas(1, x, 77); done != (is == x) || (m.Load(1) == 77) != done {
				t.Errorf("%d, Cas of %d: %t, and then %d", is, x, done, m.Load(1))
			}
		}
	}
}

// P3.1, of C3: all accesses in order, each with its own fields alone, and no pokes.
func TestLogTellsAccesses(t *testing.T) {
	m := New(3)
	m.Poke(0, 5)
	m.Load(0)
	m.Add(1, -3)
	m.Add(1, 10)
	m.Poke(2, 8)
	m.Cas(0, 5, 6)
	m.Cas(0, 5, 7)
	m.Cas(2, 8, 8)
	m.Store(2, 9)
	m.Poke(1, 1)
	m.Load(1)
	m.Store(0, 0)
	m.Words()
	m.Len()
	want := []api.Access{
		{Kind: api.Load, W: 0, A: 5},
		{Kind: api.Add, W: 1, A: -3, B: -3},
		{Kind: api.Add, W: 1, A: 10, B: 7},
		{Kind: api.Cas, W: 0, A: 5, B: 6, Ok: true},
		{Kind: api.Cas, W: 0, A: 5, B: 7},
		{Kind: api.Cas, W: 2, A: 8, B: 8, Ok: true},
		{Kind: api.Store, W: 2, A: 9},
		{Kind: api.Load, W: 1, A: 1},
		{Kind: api.Store, W: 0},
	}
	for range 2 {
		if l := m.Log(); !slices.Equal(l, want) {
			t.Errorf("%v; want %v", l, want)
		}
	}
}

// P3.1, of C3: what the log tells is what was asked, and what was answered.
func TestLogTellsAnswers(t *testing.T) {
	m := New(5)
	for i, s := range manySteps(5) {
		s = s.do(m)
		want := api.Access{Kind: s.kind, W: s.w}
		switch s.kind {
		case api.Load:
			want.A = s.n
		case api.Add:
			want.A, want.B = s.a, s.n
		case api.Cas:
			want.A, want.B, want.Ok = s.a, s.b, s.ok
		case api.Store:
			want.A = s.a
		}
		if l := m.Log(); len(l) != i+1 || l[i] != want {
			t.Fatalf("access %d of %d is told as %+v; want %+v", i, len(l), l[i], want)
		}
	}
}

// P3.1, of C4: steps till one tells true, or so many.
func TestPlayCountsSteps(t *testing.T) {
	for _, c := range []struct {
		row, most, steps int
		last             bool
	}{
		{3, 10, 3, true},
		{3, 4, 3, true},
		{3, 3, 3, true},
		{3, 2, 2, false},
		{3, 1, 1, false},
		{3, 0, 0, false},
		{3, -1, 0, false},
		{3, math.MinInt, 0, false},
		{1, 1, 1, true},
		{1, math.MaxInt, 1, true},
		{1, 0, 0, false},
		{0, 5, 1, true},
		{0, 0, 0, false},
		{1000, 1 << 31, 1000, true},
	} {
		m, x := New(1), loads(c.row)
		if steps, last := Play(m, x, nil, c.most); steps != c.steps || last != c.last {
			t.Errorf("%d to do, at most %d: %d, %t; want %d, %t", c.row, c.most, steps, last, c.steps, c.last)
		}
		if len(x.seen) != c.steps || len(m.Log()) != min(c.steps, c.row) {
			t.Errorf("%d to do, at most %d: stepped %d times, with %d accesses", c.row, c.most, len(x.seen), len(m.Log()))
		}
	}
}

// P3.1, of C4: a machine goes on where it was left, and behind its last step it is stepped once.
func TestPlayGoesOn(t *testing.T) {
	m := New(1)
	x := &asked{row: []step{{kind: api.Add, a: 1}, {kind: api.Add, a: 10}, {kind: api.Add, a: 100}}}
	for i, c := range []struct {
		most, steps int
		last        bool
		is, extra   int
	}{{1, 1, false, 1, 0}, {2, 2, true, 111, 0}, {9, 1, true, 111, 1}, {0, 0, false, 111, 1}} {
		steps, last := Play(m, x, nil, c.most)
		if steps != c.steps || last != c.last || m.Words()[0] != c.is || x.extra != c.extra {
			t.Errorf("play %d: %d, %t, word %d, %d beyond", i, steps, last, m.Words()[0], x.extra)
		}
	}
	if len(m.Log()) != 3 {
		t.Error(m.Log())
	}
}

// P3.1, of C4: what the words are ahead of each step, by which pokes are due there.
func TestPlayPokes(t *testing.T) {
	none := []int{0, 0}
	for _, c := range []struct {
		name string
		l    []api.Poke
		most int
		seen [][]int
		end  []int
	}{
		{"ahead of the first step", []api.Poke{{At: 0, W: 1, X: 5}}, 9, [][]int{{0, 5}, {0, 5}, {0, 5}}, []int{0, 5}},
		{"ahead of the last one", []api.Poke{{At: 2, W: 0, X: 5}}, 9, [][]int{none, none, {5, 0}}, []int{5, 0}},
		{"behind the last one", []api.Poke{{At: 3, W: 0, X: 5}, {At: 4, W: 1, X: 5}}, 9, [][]int{none, none, none}, none},
		{"one word at one time: in order", []api.Poke{{At: 1, W: 0, X: 5}, {At: 1, W: 0, X: 3}, {At: 1, W: 0, X: 4}}, 9, [][]int{none, {4, 0}, {4, 0}}, []int{4, 0}},
		{"times that fall", []api.Poke{{At: 2, W: 0, X: 1}, {At: 1, W: 0, X: 2}, {At: 0, W: 0, X: 3}}, 9, [][]int{{3, 0}, {2, 0}, {1, 0}}, []int{1, 0}},
		{"times that mix", []api.Poke{{At: 1, W: 0, X: 7}, {At: 0, W: 1, X: 8}, {At: 1, W: 0, X: 6}, {At: 0, W: 1, X: 9}, {At: 1, W: 1, X: 2}}, 9, [][]int{{0, 9}, {6, 2}, {6, 2}}, []int{6, 2}},
		{"words that there are not", []api.Poke{{At: 0, W: -1, X: 1}, {At: 1, W: 2, X: 1}, {At: 1, W: math.MinInt, X: 1}, {At: 1, W: 1, X: 4}, {At: 2, W: math.MaxInt, X: 1}}, 9, [][]int{none, {0, 4}, {0, 4}}, []int{0, 4}},
		{"times below 0", []api.Poke{{At: -1, W: 0, X: 1}, {At: math.MinInt, W: 1, X: 1}, {At: 1, W: 0, X: 5}}, 9, [][]int{none, {5, 0}, {5, 0}}, []int{5, 0}},
		{"a time far off", []api.Poke{{At: math.MaxInt, W: 0, X: 1}}, math.MaxInt, [][]int{none, none, none}, none},
		{"no steps", []api.Poke{{At: 0, W: 0, X: 1}, {At: -3, W: 0, X: 1}}, 0, nil, none},
		{"fewer steps than none", []api.Poke{{At: -2, W: 0, X: 1}, {At: 0, W: 0, X: 1}}, -2, nil, none},
		{"no step behind the most", []api.Poke{{At: 1, W: 0, X: 1}, {At: 2, W: 1, X: 1}}, 2, [][]int{none, {1, 0}}, []int{1, 0}},
	} {
		m, x := New(2), loads(3)
		Play(m, x, c.l, c.most)
		if !slices.EqualFunc(x.seen, c.seen, slices.Equal) || !slices.Equal(m.Words(), c.end) {
			t.Errorf("%s: %v, in the end %v; want %v, %v", c.name, x.seen, m.Words(), c.seen, c.end)
		}
		if len(m.Log()) != len(x.seen) {
			t.Errorf("%s: pokes are told as accesses: %v", c.name, m.Log())
		}
	}
}

// P3.1, of C4: many pokes of few times, held against going through all of them ahead of each step.
func TestPlayPokesInOrder(t *testing.T) {
	var l []api.Poke
	x := 1
	for i := range 2000 {
		x = x * 48271 % (1<<31 - 1)
		l = append(l, api.Poke{At: x%60 - 5, W: x/60%6 - 1, X: i})
	}
	want := make([]int, 4)
	m, played := New(4), loads(50)
	Play(m, played, l, 100)
	for steps, seen := range played.seen {
		for _, p := range l {
			if p.At == steps && p.W >= 0 && p.W < 4 {
				want[p.W] = p.X
			}
		}
		if !slices.Equal(seen, want) {
			t.Fatalf("ahead of step %d: %v; want %v", steps, seen, want)
		}
	}
	if !slices.Equal(m.Words(), want) {
		t.Errorf("in the end %v; want %v", m.Words(), want)
	}
}

// P3.2: the words are made again from the log alone, with what each access found on the way.
func TestLogMakesWordsAgain(t *testing.T) {
	for _, words := range []int{1, 2, 5, 40} {
		m := New(words)
		for _, s := range manySteps(words) {
			s.do(m)
		}
		again := make([]int, words)
		for i, a := range m.Log() {
			switch {
			case a.Kind == api.Load && again[a.W] != a.A:
				t.Errorf("access %d: %+v found %d", i, a, again[a.W])
			case a.Kind == api.Add:
				again[a.W] += a.A
				if again[a.W] != a.B {
					t.Errorf("access %d: %+v came to %d", i, a, again[a.W])
				}
			case a.Kind == api.Cas && a.Ok != (again[a.W] == a.A):
				t.Errorf("access %d: %+v found %d", i, a, again[a.W])
			case a.Kind == api.Cas && a.Ok:
				again[a.W] = a.B
			case a.Kind == api.Store:
				again[a.W] = a.A
			}
		}
		if !slices.Equal(again, m.Words()) {
			t.Errorf("%d words are %v; the log makes %v", words, m.Words(), again)
		}
	}
}

// P3.3: behind an access all words but its own are as they were, and of a Load, or a Cas that was not done, all.
func TestAccessAltersOneWord(t *testing.T) {
	for _, words := range []int{1, 2, 5, 40} {
		m := New(words)
		for i := range words {
			m.Poke(i, i%4-1)
		}
		for i, s := range manySteps(words) {
			was := m.Words()
			s = s.do(m)
			for w, x := range m.Words() {
				mayAlter := w == s.w && (s.kind == api.Add || s.kind == api.Store || s.ok)
				if x != was[w] && !mayAlter {
					t.Fatalf("access %d, %+v: word %d was %d, is %d", i, s, w, was[w], x)
				}
			}
		}
	}
}

// P1, and wrong inputs: words that there are not have no accesses, alter nothing, and no call panics.
func TestWordsThatThereAreNot(t *testing.T) {
	for _, m := range []*Mem{New(0), laid(5, 6, 7), {}, nil} {
		was := m.Words()
		for _, i := range noWords(m.Len()) {
			m.Poke(i, 3)
			if m.Load(i) != 0 || m.Add(i, 1) != 0 || m.Cas(i, 0, 1) {
				t.Errorf("word %d of %v is something", i, was)
			}
			m.Store(i, 4)
		}
		if !slices.Equal(m.Words(), was) || len(m.Log()) != 0 {
			t.Errorf("%v became %v, with %v", was, m.Words(), m.Log())
		}
	}
}

// P1, and wrong inputs: of numbers of words of which nothing is said there are none.
func TestNewOfOtherNumbers(t *testing.T) {
	for _, n := range []int{-1, -10000, math.MinInt, 10001, 1 << 62, math.MaxInt} {
		if m := New(n); m.Len() != 0 || len(m.Words()) != 0 || len(m.Log()) != 0 {
			t.Errorf("New(%d) has %d words", n, m.Len())
		}
	}
}

// P1, and wrong inputs: no machine makes no steps, and has nothing poked.
func TestPlayOfNothing(t *testing.T) {
	m := laid(5)
	if steps, last := Play(m, nil, []api.Poke{{X: 9}}, 5); steps != 0 || last || m.Load(0) != 5 {
		t.Errorf("no machine: %d, %t, %v", steps, last, m.Words())
	}
	if steps, last := Play(nil, loads(2), []api.Poke{{X: 9}}, 5); steps != 2 || !last {
		t.Errorf("no words: %d, %t", steps, last)
	}
}

// P3: lists that come out are new memory, their spare room too.
func TestListsAreNew(t *testing.T) {
	m := New(3)
	for range 5 {
		m.Add(1, 1)
	}
	first, second := m.Words(), m.Words()
	first[1] = 77
	_ = append(first[:0], 70, 71, 72, 73)
	_ = append(second, 74)
	if !slices.Equal(m.Words(), []int{0, 5, 0}) || !slices.Equal(second, []int{0, 5, 0}) {
		t.Errorf("words are shared: %v, %v", m.Words(), second)
	}
	told, again := m.Log(), m.Log()
	told[0].A = 77
	_ = append(told, api.Access{Kind: 77})
	_ = append(again, api.Access{Kind: 78})
	m.Add(1, 2)
	_ = append(told, api.Access{Kind: 79})
	l := m.Log()
	if len(l) != 6 || l[0] != (api.Access{Kind: api.Add, W: 1, A: 1, B: 1}) || l[5] != (api.Access{Kind: api.Add, W: 1, A: 2, B: 7}) || again[0].A != 1 {
		t.Errorf("the log is shared: %v, %v", l, again)
	}
}

// P3: what came out is not altered by what comes later.
func TestListsStayAsTheyWere(t *testing.T) {
	m := New(2)
	m.Store(0, 4)
	words, told := m.Words(), m.Log()
	m.Store(0, 5)
	m.Poke(1, 6)
	if !slices.Equal(words, []int{4, 0}) || !slices.Equal(told, []api.Access{{Kind: api.Store, A: 4}}) {
		t.Errorf("%v, %v", words, told)
	}
}

// P3: pokes that are handed in are not changed, nor their spare room, and not kept.
func TestPokesStayAsTheyWere(t *testing.T) {
	whole := []api.Poke{{At: 2, W: 0, X: 1}, {At: 0, W: 1, X: 2}, {At: 1, W: 9, X: 3}, {At: 0, W: 0, X: 4}, {At: -1, W: 0, X: 5}}
	was := slices.Clone(whole)
	m := New(2)
	Play(m, loads(5), whole[:3], 9)
	if !slices.Equal(whole, was) {
		t.Errorf("%v became %v", was, whole)
	}
	whole[0].X = 50
	Play(m, loads(5), nil, 9)
	if !slices.Equal(m.Words(), []int{1, 2}) {
		t.Errorf("pokes are kept: %v", m.Words())
	}
}

// P3: what is kept is kept by each Mem of its own.
func TestMemsStandApart(t *testing.T) {
	a, b := New(2), New(2)
	a.Store(0, 1)
	b.Store(1, 2)
	b.Load(0)
	if !slices.Equal(a.Words(), []int{1, 0}) || !slices.Equal(b.Words(), []int{0, 2}) || len(a.Log()) != 1 || len(b.Log()) != 2 {
		t.Errorf("%v %v, %v %v", a.Words(), a.Log(), b.Words(), b.Log())
	}
}
