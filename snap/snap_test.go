package snap

import (
	"math"
	"slices"
	"testing"

	"breadline/add"
	"breadline/api"
	"breadline/draw"
	"breadline/mem"
	"breadline/pack"
)

var _ mem.Machine = (*Machine)(nil)

// word is a stripe's.
func word(version, value int) int {
	w, ok := pack.Word(version, value)
	if !ok {
		panic("no such word")
	}
	return w
}

func laid(l ...int) *mem.Mem {
	m := mem.New(len(l))
	for i, x := range l {
		m.Poke(i, x)
	}
	return m
}

func load(w, a int) api.Access { return api.Access{Kind: api.Load, W: w, A: a} }

// loads are those of words, as they are in all.
func loads(all []int, words ...int) []api.Access {
	var l []api.Access
	for _, w := range words {
		l = append(l, load(w, all[w]))
	}
	return l
}

func exact(n int) api.Ans { return api.Ans{N: n, Exact: true} }

func glance(n int) api.Ans { return api.Ans{N: n} }

// P7.1, of G1: the words that one try loads, and its answer, written out; nothing comes between.
func TestOneTry(t *testing.T) {
	for _, c := range []struct {
		name          string
		words         []int
		base, stripes int
		loads         []int
		want          api.Ans
	}{
		{"the example", []int{5, 1, 1, 2, word(0, 3), word(1, 4)}, 0, 2,
			[]int{1, 2, 0, 4, 5, 1, 4, 5}, exact(12)},
		{"nothing was added", []int{0, 0, 0, 1, 0}, 0, 1,
			[]int{1, 2, 0, 4, 1, 4}, exact(0)},
		{"versions are no part of a sum", []int{-7, 9, 9, 1, word(1<<32-1, -3)}, 0, 1,
			[]int{1, 2, 0, 4, 1, 4}, exact(-10)},
		{"stripes that are not live are part of it", []int{1, 3, 3, 1, word(1, 2), word(1, 4), word(1, 8), word(1, 16)}, 0, 4,
			[]int{1, 2, 0, 4, 5, 6, 7, 1, 4, 5, 6, 7}, exact(31)},
		{"as many stripes as may be", []int{1, 0, 0, 8, 1, 2, 3, 4, 5, 6, 7, 8}, 0, 8,
			[]int{1, 2, 0, 4, 5, 6, 7, 8, 9, 10, 11, 1, 4, 5, 6, 7, 8, 9, 10, 11}, exact(37)},
		{"a counter among other words", []int{8, 8, 100, 2, 2, 2, 10, 1, 8, 8}, 2, 2,
			[]int{3, 4, 2, 6, 7, 3, 6, 7}, exact(111)},
		{"what is behind the stripes is no part", []int{1, 0, 0, 8, 1, 2, 3, 4}, 0, 1,
			[]int{1, 2, 0, 4, 1, 4}, exact(2)},
		{"sums go round", []int{math.MaxInt, 4, 4, 1, word(0, 1)}, 0, 1,
			[]int{1, 2, 0, 4, 1, 4}, exact(math.MinInt)},
		{"sums go round, downward", []int{math.MinInt, 4, 4, 2, word(6, -1<<31), word(0, -1)}, 0, 2,
			[]int{1, 2, 0, 4, 5, 1, 4, 5}, exact(math.MaxInt - 1<<31)},
		{"whatever the words are", []int{math.MinInt, -1, -1, math.MaxInt, math.MaxInt, math.MinInt}, 0, 2,
			[]int{1, 2, 0, 4, 5, 1, 4, 5}, exact(math.MaxInt)},
		{"more is begun than is done", []int{5, 2, 1, 1, 3}, 0, 1,
			[]int{1, 2, 0, 4, 1, 4}, glance(5)},
		{"more is done than is begun", []int{-5, 1, 2, 1, 3}, 0, 1,
			[]int{1, 2, 0, 4, 1, 4}, glance(-5)},
	} {
		m := laid(c.words...)
		x := Count(c.base, c.stripes, 1)
		steps, last := mem.Play(m, x, nil, 100)
		if steps != len(c.loads) || !last || x.Ans() != c.want {
			t.Errorf("%s: %d steps, %t, %v; want %d, %v", c.name, steps, last, x.Ans(), len(c.loads), c.want)
		}
		if got, want := m.Log(), loads(c.words, c.loads...); !slices.Equal(got, want) {
			t.Errorf("%s: %v; want %v", c.name, got, want)
		}
		if got := m.Words(); !slices.Equal(got, c.words) {
			t.Errorf("%s: in the end %v", c.name, got)
		}
	}
}

// P7.1, of G1: a peek loads the global word, whatever the others are, and is never exact.
func TestPeek(t *testing.T) {
	for _, c := range []struct {
		words []int
		base  int
		want  int
	}{
		{[]int{5, 1, 1, 2, 3, word(1, 4)}, 0, 5},
		{[]int{0, 0, 0, 1, 0}, 0, 0},
		{[]int{9, 9, -6, 2, 1, 1, 3}, 2, -6},
		{[]int{math.MinInt}, 0, math.MinInt},
		{[]int{1, math.MaxInt}, 1, math.MaxInt},
	} {
		m, x := laid(c.words...), Peek(c.base)
		if x.Ans() != (api.Ans{}) {
			t.Errorf("%v: %v ahead of the load", c.words, x.Ans())
		}
		steps, last := mem.Play(m, x, nil, 9)
		if steps != 1 || !last || x.Ans() != glance(c.want) {
			t.Errorf("%v: %d steps, %t, %v; want %d", c.words, steps, last, x.Ans(), c.want)
		}
		if got := m.Log(); !slices.Equal(got, []api.Access{load(c.base, c.want)}) || !slices.Equal(m.Words(), c.words) {
			t.Errorf("%v: %v", c.words, got)
		}
	}
}

// P7.1, of G1: of one try of two stripes, each word altered ahead of each load, and what that makes of the answer.
func TestAlteredInATry(t *testing.T) {
	words := []int{50, 3, 3, 2, word(1, 1), word(1, 2)}
	same, last := exact(53), glance(50)
	// Loads are of begun, done, the global word, both stripes, begun, both stripes.
	for _, c := range []struct {
		name string
		w, x int
		want [9]api.Ans
	}{
		{"global", 0, 60, [9]api.Ans{exact(63), exact(63), exact(63), same, same, same, same, same, same}},
		{"begun", 1, 4, [9]api.Ans{last, last, last, last, last, last, same, same, same}},
		{"done", 2, 2, [9]api.Ans{last, last, same, same, same, same, same, same, same}},
		{"live", 3, 1, [9]api.Ans{same, same, same, same, same, same, same, same, same}},
		{"a stripe's value", 4, word(1, 9), [9]api.Ans{exact(61), exact(61), exact(61), exact(61), last, last, last, same, same}},
		{"a stripe's version", 4, word(2, 1), [9]api.Ans{same, same, same, same, last, last, last, same, same}},
		{"the last stripe's value", 5, word(1, -2), [9]api.Ans{exact(49), exact(49), exact(49), exact(49), exact(49), last, last, last, same}},
		{"the last stripe's version", 5, word(0, 2), [9]api.Ans{same, same, same, same, same, last, last, last, same}},
	} {
		for at, want := range c.want {
			m, x := laid(words...), Count(0, 2, 1)
			steps, ended := mem.Play(m, x, []api.Poke{{At: at, W: c.w, X: c.x}}, 50)
			if steps != 8 || !ended || x.Ans() != want {
				t.Errorf("%s, ahead of load %d: %d steps, %t, %v; want %v", c.name, at, steps, ended, x.Ans(), want)
			}
		}
	}
}

// P7.1, of G1: begun, done and begun again are alike, all three; what goes and comes back between is not seen.
func TestThreeAlike(t *testing.T) {
	for _, c := range []struct{ b, e, f int }{
		{3, 3, 3}, {3, 3, 4}, {3, 4, 3}, {4, 3, 3}, {3, 4, 4}, {4, 3, 4}, {4, 4, 3}, {3, 4, 5}, {0, 0, 0}, {-1, -1, 1},
	} {
		m, x := laid(7, c.b, c.e, 1, 2), Count(0, 1, 1)
		mem.Play(m, x, []api.Poke{{At: 1, W: 1, X: 99}, {At: 4, W: 1, X: c.f}}, 50)
		want := glance(7)
		if c.b == c.e && c.e == c.f {
			want = exact(9)
		}
		if x.Ans() != want {
			t.Errorf("%+v: %v; want %v", c, x.Ans(), want)
		}
	}
}

// P7.1, of G1: so often as retry says, from 1 to 8, and of the last try the global word; an exact try is the last one.
func TestTries(t *testing.T) {
	for _, stripes := range powers(api.MaxStripes) {
		try := 4 + 2*stripes
		for retry := 1; retry <= api.MaxRetry; retry++ {
			for good := 1; good <= retry+1; good++ {
				m := mem.New(4 + stripes)
				m.Poke(1, 1)
				var l []api.Poke
				for k := range retry {
					l = append(l, api.Poke{At: k * try, W: 0, X: 100 + k}, api.Poke{At: k*try + 3, W: 0, X: 500})
				}
				l = append(l, api.Poke{At: (good - 1) * try, W: 2, X: 1})
				x := Count(0, stripes, retry)
				steps, last := mem.Play(m, x, l, 1000)
				want, tries := exact(100+good-1), good
				if good > retry {
					want, tries = glance(100+retry-1), retry
				}
				if steps != tries*try || !last || x.Ans() != want || len(m.Log()) != steps {
					t.Errorf("%d stripes, retry %d, calm from try %d on: %d steps, %t, %v; want %d, %v", stripes, retry, good, steps, last, x.Ans(), tries*try, want)
				}
			}
		}
	}
}

// P7.1, of G1: what one try found is nothing to the next one: a stripe that was changed between them is not.
func TestTriesStandApart(t *testing.T) {
	m, x := laid(5, 1, 1, 2, 3, word(1, 4)), Count(0, 2, 2)
	l := []api.Poke{{At: 5, W: 4, X: word(2, 3)}, {At: 8, W: 5, X: word(2, 9)}, {At: 8, W: 0, X: 6}, {At: 8, W: 1, X: 2}, {At: 8, W: 2, X: 2}}
	steps, last := mem.Play(m, x, l, 50)
	if steps != 16 || !last || x.Ans() != exact(18) {
		t.Errorf("%d steps, %t, %v", steps, last, x.Ans())
	}
}

// P7.1, of G1: only the last Step tells true; behind it nothing is loaded, and true is told; the answer is a zero one ahead of it, and stays.
func TestStepsBehindTheLast(t *testing.T) {
	for _, c := range []struct {
		x     *Machine
		begun int
		steps int
		want  api.Ans
	}{
		{Peek(0), 1, 1, glance(5)},
		{Count(0, 2, 3), 1, 8, exact(12)},
		{Count(0, 2, 3), 2, 24, glance(5)},
		{Count(0, 1, 1), 2, 6, glance(5)},
	} {
		m := laid(5, c.begun, 1, 2, 3, 4)
		for step := 1; step <= c.steps+4; step++ {
			if step <= c.steps && c.x.Ans() != (api.Ans{}) {
				t.Errorf("ahead of step %d of %d: %v", step, c.steps, c.x.Ans())
			}
			last := c.x.Step(m)
			if last != (step >= c.steps) || len(m.Log()) != min(step, c.steps) {
				t.Errorf("step %d of %d: %t, %d accesses", step, c.steps, last, len(m.Log()))
			}
			if step == c.steps {
				m.Poke(0, 99)
			}
			if step >= c.steps && c.x.Ans() != c.want {
				t.Errorf("behind step %d of %d: %v; want %v", step, c.steps, c.x.Ans(), c.want)
			}
		}
	}
}

// plain is a count as the chapter writes it, all that a try finds by its letter.
type plain struct {
	base, s, retry int
	at             int
	b, e, g, f     int
	first, again   []int
	ans            api.Ans
	ended          bool
}

func (r *plain) Step(m *mem.Mem) bool {
	if r.ended {
		return true
	}
	switch at := r.at; {
	case at == 0:
		r.first, r.again = nil, nil
		r.b = m.Load(r.base + 1)
	case at == 1:
		r.e = m.Load(r.base + 2)
	case at == 2:
		r.g = m.Load(r.base)
	case at < 3+r.s:
		r.first = append(r.first, m.Load(r.base+4+at-3))
	case at == 3+r.s:
		r.f = m.Load(r.base + 1)
	default:
		r.again = append(r.again, m.Load(r.base+4+at-4-r.s))
	}
	r.at++
	if r.at == 4+2*r.s {
		r.end()
	}
	return r.ended
}

func (r *plain) end() {
	r.at, r.ended = 0, true
	if r.b == r.e && r.e == r.f && slices.Equal(r.first, r.again) {
		r.ans = api.Ans{N: r.g, Exact: true}
		for _, w := range r.first {
			r.ans.N += int(int32(w))
		}
		return
	}
	r.retry--
	if r.retry == 0 {
		r.ans = api.Ans{N: r.g}
		return
	}
	r.ended = false
}

func (r *plain) Ans() api.Ans { return r.ans }

// drawer picks one of so many, always by the same row.
func drawer(thread int) func(many int) int {
	x := draw.Begin(thread)
	return func(many int) int {
		x = draw.Next(x)
		return draw.Pick(x, many)
	}
}

func powers(most int) []int {
	var l []int
	for n := 1; n <= most; n *= 2 {
		l = append(l, n)
	}
	return l
}

// anyWord is seldom the same one again, or often, as few says.
func anyWord(pick func(int) int, few bool) int {
	if few {
		return pick(2)
	}
	edges := []int{0, 1, -1, math.MinInt, math.MaxInt, word(1, -1), word(1<<31, -1<<31), word(7, pick(1000)-500), word(pick(1<<20), 1<<31-1)}
	return edges[pick(len(edges))]
}

// P7.1, of G1: whatever the words are, and whatever comes between, all accesses and the answer are those of the chapter's words.
func TestAsWritten(t *testing.T) {
	pick := drawer(3)
	exacts, tries := 0, 0
	for round := range 6000 {
		base, s, retry, few := pick(4), powers(8)[pick(4)], 1+pick(8), pick(3) > 0
		m := mem.New(base + 4 + s + pick(3))
		for w := range m.Len() {
			m.Poke(w, anyWord(pick, few))
		}
		m.Poke(base+2, m.Words()[base+1])
		var l []api.Poke
		for range pick(80) >> pick(4) {
			l = append(l, api.Poke{At: pick(3 * (4 + 2*s)), W: pick(m.Len()), X: anyWord(pick, few)})
		}
		other := laid(m.Words()...)
		x, want := Count(base, s, retry), &plain{base: base, s: s, retry: retry}
		steps, last := mem.Play(m, x, l, 200)
		wantSteps, wantLast := mem.Play(other, want, l, 200)
		if steps != wantSteps || last != wantLast || x.Ans() != want.Ans() || !slices.Equal(m.Log(), other.Log()) || !slices.Equal(m.Words(), other.Words()) {
			t.Fatalf("round %d, base %d, %d stripes, retry %d: %d, %t, %v, %v; want %d, %t, %v, %v", round, base, s, retry, steps, last, x.Ans(), m.Log(), wantSteps, wantLast, want.Ans(), other.Log())
		}
		if x.Ans().Exact {
			exacts++
			if steps > 4+2*s {
				tries++
			}
		}
	}
	if exacts < 1000 || exacts > 5000 || tries < 100 {
		t.Errorf("of 6000 counts %d are exact, %d of them not at the first try: too few of some kind", exacts, tries)
	}
}

// adder is a thread that adds one amount behind the other.
type adder struct {
	of      counted
	amounts []int
	thread  int
	on      *add.Machine
}

// counted is a counter as layer 6 has it.
type counted struct{ base, stripes, gate int }

func (c counted) fresh() *mem.Mem {
	m := mem.New(c.base + 4 + c.stripes)
	m.Poke(c.base+3, 1)
	return m
}

func (c counted) done(m *mem.Mem) bool {
	w := m.Words()
	return w[c.base+1] == w[c.base+2]
}

func (c counted) sum(m *mem.Mem) int { return add.Sum(m, c.base, c.stripes) }

// step does nothing behind the last amount.
func (a *adder) step(m *mem.Mem) {
	if a.on == nil {
		if len(a.amounts) == 0 {
			return
		}
		a.on = add.New(a.of.base, a.of.stripes, a.of.gate, a.amounts[0], a.thread)
		a.amounts = a.amounts[1:]
	}
	if a.on.Step(m) {
		a.on = nil
	}
}

// among counts while adders step: turn 0 is the count's, and others are theirs. It holds an exact answer against all sums at the count's own steps at which all that was begun is done.
func among(t *testing.T, m *mem.Mem, c counted, retry int, adders []*adder, turn func() int) (api.Ans, int) {
	t.Helper()
	x := Count(c.base, c.stripes, retry)
	var sums []int
	steps := 0
	for last := false; !last; {
		i := turn()
		if i > 0 {
			adders[i-1].step(m)
			continue
		}
		if c.done(m) {
			sums = append(sums, c.sum(m))
		}
		last = x.Step(m)
		steps++
	}
	if a := x.Ans(); a.Err != api.OK || a.Node != 0 || a.Exact && !slices.Contains(sums, a.N) {
		t.Fatalf("%+v, retry %d: %+v; the sums were %v, behind %v", c, retry, a, sums, m.Log())
	}
	return x.Ans(), steps
}

// row is turns that are told, and behind them the count's for ever.
func row(turns []int) func() int {
	return func() int {
		if len(turns) == 0 {
			return 0
		}
		i := turns[0]
		turns = turns[1:]
		return i
	}
}

// allRows has do go through all rows of so many turns of each.
func allRows(left []int, ahead []int, do func([]int)) {
	ended := true
	for i := range left {
		if left[i] > 0 {
			ended = false
			left[i]--
			allRows(left, append(ahead, i), do)
			left[i]++
		}
	}
	if ended {
		do(slices.Clone(ahead))
	}
}

// P7.2: one thread adds, by all turns, whatever it is that leaves a stripe, or stays.
func TestExactByAllTurnsOfTwo(t *testing.T) {
	exacts, all := 0, 0
	for _, amounts := range [][]int{{1}, {4}, {-9}, {2, 2}} {
		for _, stripes := range []int{1, 2} {
			allRows([]int{4 + 2*stripes, 3 + 3*len(amounts)}, nil, func(turns []int) {
				c := counted{0, stripes, 4}
				m := c.fresh()
				mem.Play(m, add.New(0, stripes, 4, 3, 0), nil, 9)
				a, _ := among(t, m, c, 1, []*adder{{of: c, amounts: amounts, thread: 0}}, row(turns))
				all++
				if a.Exact {
					exacts++
				}
			})
		}
	}
	if exacts == 0 || exacts == all {
		t.Errorf("%d of %d are exact", exacts, all)
	}
}

// P7.2: two threads add to one stripe, by all turns of a count's one try.
func TestExactByAllTurnsOfThree(t *testing.T) {
	allRows([]int{6, 3, 6}, nil, func(turns []int) {
		c := counted{0, 1, 2}
		m := c.fresh()
		among(t, m, c, 1, []*adder{{of: c, amounts: []int{1}, thread: 0}, {of: c, amounts: []int{5}, thread: 1}}, row(turns))
	})
}

// P7.2: many threads add, by drawn turns, and are left where they are.
func TestExactAmongMany(t *testing.T) {
	pick := drawer(9)
	exacts, moved := 0, 0
	for range 6000 {
		c := counted{pick(3), powers(8)[pick(4)], []int{1, 2, 4, 1 << 20}[pick(4)]}
		m := c.fresh()
		var l []*adder
		for thread := range 1 + pick(4) {
			a := &adder{of: c, thread: thread}
			for range pick(8) {
				a.amounts = append(a.amounts, []int{0, 1, -1, 3, -1 << 20, 1 << 20}[pick(6)])
			}
			l = append(l, a)
		}
		for range pick(40) {
			l[pick(len(l))].step(m)
		}
		was, seldom := c.sum(m), 1+pick(20)
		a, _ := among(t, m, c, 1+pick(8), l, func() int {
			if pick(seldom) > 0 {
				return 0
			}
			return pick(1 + len(l))
		})
		if a.Exact {
			exacts++
			if a.N != was {
				moved++
			}
		}
	}
	if exacts < 500 || moved < 50 {
		t.Errorf("of 6000 counts %d are exact, %d of them by what was added meanwhile: too few", exacts, moved)
	}
}

// P7.3: threads are stopped wherever all that was begun is done, among them such as found a stripe and have not changed it; the first try is exact then.
func TestCalm(t *testing.T) {
	pick := drawer(11)
	calm := 0
	for range 3000 {
		c := counted{pick(3), powers(8)[pick(4)], []int{1, 2, 4, 1 << 20}[pick(4)]}
		m := c.fresh()
		var l []*adder
		for thread := range 1 + pick(4) {
			l = append(l, &adder{of: c, thread: thread, amounts: []int{1, -3, 1 << 20, 2, -1}})
		}
		for range pick(60) {
			l[pick(len(l))].step(m)
		}
		if !c.done(m) {
			continue
		}
		calm++
		before, was := len(m.Log()), m.Words()
		x := Count(c.base, c.stripes, 1+pick(8))
		steps, last := mem.Play(m, x, nil, 200)
		if steps != 4+2*c.stripes || !last || x.Ans() != exact(c.sum(m)) {
			t.Errorf("%+v, %v: %d steps, %t, %v; want %d", c, was, steps, last, x.Ans(), c.sum(m))
		}
		if len(m.Log())-before != steps || !slices.Equal(m.Words(), was) {
			t.Errorf("%+v, %v: in the end %v", c, was, m.Words())
		}
	}
	if calm < 1000 {
		t.Errorf("only %d of 3000 were calm", calm)
	}
}

// P7.3 needs both: by what is begun, and not done, no try is exact, however calm it is.
func TestNotCalm(t *testing.T) {
	c := counted{0, 2, 4}
	for stop := 1; stop <= 6; stop++ {
		m := c.fresh()
		x := add.New(0, 2, 4, 9, 0)
		mem.Play(m, x, nil, stop)
		y := Count(0, 2, 8)
		steps, last := mem.Play(m, y, nil, 200)
		wantSteps, want := 64, glance(m.Words()[0])
		if c.done(m) {
			wantSteps, want = 8, exact(c.sum(m))
		}
		if steps != wantSteps || !last || y.Ans() != want {
			t.Errorf("stopped behind %d accesses: %d steps, %t, %v; want %d, %v", stop, steps, last, y.Ans(), wantSteps, want)
		}
	}
}

// P3: machines stand apart, and what one tells hangs on what it was given alone.
func TestMachinesStandApart(t *testing.T) {
	first, second := laid(5, 1, 1, 2, 3, 4), laid(70, 2, 1, 2, 30, 40)
	a, b := Count(0, 2, 2), Count(0, 2, 2)
	for range 16 {
		a.Step(first)
		b.Step(second)
	}
	if a.Ans() != exact(12) || b.Ans() != glance(70) || len(first.Log()) != 8 || len(second.Log()) != 16 {
		t.Errorf("%v by %d, %v by %d", a.Ans(), len(first.Log()), b.Ans(), len(second.Log()))
	}
	again, c := laid(5, 1, 1, 2, 3, 4), Count(0, 2, 2)
	mem.Play(again, c, nil, 99)
	if c.Ans() != a.Ans() || !slices.Equal(again.Log(), first.Log()) {
		t.Errorf("asked again: %v, %v; the first time %v, %v", c.Ans(), again.Log(), a.Ans(), first.Log())
	}
}

// Numbers of which nothing is said, and ordinary ones.
func anyNumbers() []int {
	return []int{math.MinInt, -1 << 31, -5, -1, 0, 1, 3, 8, 9, 1001, 1 << 40, math.MaxInt}
}

// P1: nothing is said of other numbers, and words, but all calls end, and none panics.
func TestWrongInputsEnd(t *testing.T) {
	mems := []*mem.Mem{nil, mem.New(0), laid(4), laid(0, 0, 0, 1, 0), laid(1, 2, 3, 0, 5, 6)}
	for _, a := range anyNumbers() {
		for _, m := range mems {
			mem.Play(m, Peek(a), nil, 30)
			for _, b := range anyNumbers() {
				mem.Play(m, Count(a, b, 1), nil, 30)
				mem.Play(m, Count(0, a, b), nil, 30)
			}
		}
	}
	for _, retry := range []int{math.MinInt, -1, 0} {
		if steps, last := mem.Play(laid(0, 1, 0, 1, 0), Count(0, 1, retry), nil, 30); steps != 6 || !last {
			t.Errorf("retry %d: %d steps, %t", retry, steps, last)
		}
	}
	for _, x := range []*Machine{nil, {}} {
		if !x.Step(laid(0, 0, 0, 1, 0)) || x.Ans() != (api.Ans{}) {
			t.Error("a machine of nothing goes on, or answers")
		}
	}
}
