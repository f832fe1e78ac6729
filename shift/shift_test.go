package shift

import (
	"math"
	"slices"
	"testing"

	"breadline/api"
	"breadline/draw"
	"breadline/mem"
	"breadline/plan"
	"breadline/pool"
)

var _ mem.Machine = (*Machine)(nil)

// set is a setting of tenants that all hang on the first one, with limits that all differ.
func set(nodes, stripes int) api.Conf {
	c := api.Conf{Threads: 2, Stripes: stripes, Gate: 8, Lease: 4, Retry: 2, Tickets: 3}
	for node := range nodes {
		c.Parents = append(c.Parents, min(node, 1)-1)
		c.Limits = append(c.Limits, 100+7*node)
	}
	return c
}

// The words of node 1, where there are two stripes.
const (
	limitWord = 10
	availWord = 11
)

const (
	maxAmount = 1 << 20
	maxLimit  = 1 << 40
)

func load(w, a int) api.Access       { return api.Access{Kind: api.Load, W: w, A: a} }
func plus(w, a, b int) api.Access    { return api.Access{Kind: api.Add, W: w, A: a, B: b} }
func swapped(w, a, b int) api.Access { return api.Access{Kind: api.Cas, W: w, A: a, B: b, Ok: true} }
func failed(w, a, b int) api.Access  { return api.Access{Kind: api.Cas, W: w, A: a, B: b} }
func poke(at, w, x int) api.Poke     { return api.Poke{At: at, W: w, X: x} }

func over(node int) api.Ans { return api.Ans{Err: api.ErrOver, Node: node} }

func big() api.Ans { return api.Ans{Err: api.ErrBig} }

// maker is Refund, Raise or Lower.
type maker func(c api.Conf, node int, n int) *Machine

// makers are all of them, by the numbers of what numbered does.
func makers() []maker { return []maker{Refund, Raise, Lower} }

const (
	refund = iota
	raise
	lower
)

// written is one whole run at node 1, as the chapter's steps say it.
type written struct {
	name               string
	limit, avail, n    int
	pokes              []api.Poke
	log                []api.Access
	want               api.Ans
	endLimit, endAvail int
}

func (f written) check(t *testing.T, build maker) {
	t.Helper()
	c := set(3, 2)
	m := plan.Fresh(c)
	m.Poke(limitWord, f.limit)
	m.Poke(availWord, f.avail)
	want := m.Words()
	want[limitWord], want[availWord] = f.endLimit, f.endAvail
	x := build(c, 1, f.n)
	steps, last := mem.Play(m, x, f.pokes, 100)
	if steps != len(f.log) || !last || x.Ans() != f.want {
		t.Errorf("%s: %d steps, %t, %v; want %d, %v", f.name, steps, last, x.Ans(), len(f.log), f.want)
	}
	if got := m.Log(); !slices.Equal(got, f.log) {
		t.Errorf("%s: %v; want %v", f.name, got, f.log)
	}
	if got := m.Words(); !slices.Equal(got, want) {
		t.Errorf("%s: in the end %v; want %v", f.name, got, want)
	}
}

// P9.1, of Refund.
func TestRefund(t *testing.T) {
	for _, f := range []written{
		{"ordinary", 10, 4, 5, nil, []api.Access{plus(availWord, 5, 9)}, api.Ans{}, 10, 9},
		{"of nothing", 10, 0, 1, nil, []api.Access{plus(availWord, 1, 1)}, api.Ans{}, 10, 1},
		{"beyond a limit below 0", -5, 3, 2, nil, []api.Access{plus(availWord, 2, 5)}, api.Ans{}, -5, 5},
		{"to the greatest", maxLimit, maxLimit - maxAmount, maxAmount, nil,
			[]api.Access{plus(availWord, maxAmount, maxLimit)}, api.Ans{}, maxLimit, maxLimit},
		{"on top of what others left", 10, 4, 5, []api.Poke{poke(0, availWord, 1), poke(1, limitWord, 3)},
			[]api.Access{plus(availWord, 5, 6)}, api.Ans{}, 10, 6},
	} {
		f.check(t, Refund)
	}
}

// P9.1, of Raise, alone.
func TestRaise(t *testing.T) {
	run := func(limit, avail, n int) []api.Access {
		return []api.Access{load(limitWord, limit), swapped(limitWord, limit, limit+n), plus(availWord, n, avail+n)}
	}
	for _, f := range []written{
		{"ordinary", 10, 4, 5, nil, run(10, 4, 5), api.Ans{}, 15, 9},
		{"of nothing", 0, 0, 1, nil, run(0, 0, 1), api.Ans{}, 1, 1},
		{"from below 0", -3, 0, 2, nil, run(-3, 0, 2), api.Ans{}, -1, 2},
		{"from the least", -maxLimit, 0, maxAmount, nil, run(-maxLimit, 0, maxAmount), api.Ans{}, maxAmount - maxLimit, maxAmount},
		{"to just the greatest", maxLimit - 3, 7, 3, nil, run(maxLimit-3, 7, 3), api.Ans{}, maxLimit, 10},
		{"one above", maxLimit - 3, 7, 4, nil, []api.Access{load(limitWord, maxLimit-3)}, big(), maxLimit - 3, 7},
		{"of the greatest", maxLimit, maxLimit, 1, nil, []api.Access{load(limitWord, maxLimit)}, big(), maxLimit, maxLimit},
		{"by the greatest amount, just", maxLimit - maxAmount, 0, maxAmount, nil, run(maxLimit-maxAmount, 0, maxAmount), api.Ans{}, maxLimit, maxAmount},
		{"by the greatest amount, one above", maxLimit - maxAmount + 1, 0, maxAmount, nil,
			[]api.Access{load(limitWord, maxLimit-maxAmount+1)}, big(), maxLimit - maxAmount + 1, 0},
		{"more is available than a limit", 3, maxLimit - 1, 1, nil, run(3, maxLimit-1, 1), api.Ans{}, 4, maxLimit},
	} {
		f.check(t, Raise)
	}
}

// P9.1, of Raise, among others.
func TestRaiseAmongOthers(t *testing.T) {
	for _, f := range []written{
		{"missed once", 10, 4, 5, []api.Poke{poke(1, limitWord, 50)},
			[]api.Access{load(limitWord, 10), failed(limitWord, 10, 15), load(limitWord, 50), swapped(limitWord, 50, 55), plus(availWord, 5, 9)}, api.Ans{}, 55, 9},
		{"missed twice", 10, 4, 5, []api.Poke{poke(1, limitWord, 9), poke(3, limitWord, -8)},
			[]api.Access{load(limitWord, 10), failed(limitWord, 10, 15), load(limitWord, 9), failed(limitWord, 9, 14), load(limitWord, -8), swapped(limitWord, -8, -3), plus(availWord, 5, 9)}, api.Ans{}, -3, 9},
		{"too great by then", 10, 4, 5, []api.Poke{poke(1, limitWord, maxLimit-4)},
			[]api.Access{load(limitWord, 10), failed(limitWord, 10, 15), load(limitWord, maxLimit-4)}, big(), maxLimit - 4, 4},
		{"no more too great", maxLimit, 4, 5, []api.Poke{poke(0, limitWord, 10)},
			[]api.Access{load(limitWord, 10), swapped(limitWord, 10, 15), plus(availWord, 5, 9)}, api.Ans{}, 15, 9},
		{"there and back again", 10, 4, 5, []api.Poke{poke(1, limitWord, 3), poke(1, limitWord, 10)},
			[]api.Access{load(limitWord, 10), swapped(limitWord, 10, 15), plus(availWord, 5, 9)}, api.Ans{}, 15, 9},
		{"what is available may change", 10, 4, 5, []api.Poke{poke(1, availWord, 3), poke(2, availWord, 0)},
			[]api.Access{load(limitWord, 10), swapped(limitWord, 10, 15), plus(availWord, 5, 5)}, api.Ans{}, 15, 5},
		{"the limit may change behind it", 10, 4, 5, []api.Poke{poke(2, limitWord, 99)},
			[]api.Access{load(limitWord, 10), swapped(limitWord, 10, 15), plus(availWord, 5, 9)}, api.Ans{}, 99, 9},
	} {
		f.check(t, Raise)
	}
}

// P9.1, of Lower, alone, of the chapter's example among them.
func TestLower(t *testing.T) {
	run := func(limit, avail, n int) []api.Access {
		return []api.Access{load(availWord, avail), swapped(availWord, avail, avail-n), plus(limitWord, -n, limit-n)}
	}
	for _, f := range []written{
		{"the example", 10, 4, 5, nil, []api.Access{load(availWord, 4)}, over(1), 10, 4},
		{"ordinary", 10, 7, 5, nil, run(10, 7, 5), api.Ans{}, 5, 2},
		{"just as many", 10, 5, 5, nil, run(10, 5, 5), api.Ans{}, 5, 0},
		{"of nothing", 10, 0, 1, nil, []api.Access{load(availWord, 0)}, over(1), 10, 0},
		{"to below 0", 3, 5, 5, nil, run(3, 5, 5), api.Ans{}, -2, 0},
		{"to the least", maxAmount - maxLimit, maxLimit, maxAmount, nil, run(maxAmount-maxLimit, maxLimit, maxAmount), api.Ans{}, -maxLimit, maxLimit - maxAmount},
		{"by the greatest amount, just", maxLimit, maxAmount, maxAmount, nil, run(maxLimit, maxAmount, maxAmount), api.Ans{}, maxLimit - maxAmount, 0},
		{"by the greatest amount, one too few", maxLimit, maxAmount - 1, maxAmount, nil, []api.Access{load(availWord, maxAmount-1)}, over(1), maxLimit, maxAmount - 1},
	} {
		f.check(t, Lower)
	}
}

// P9.1, of Lower, among others.
func TestLowerAmongOthers(t *testing.T) {
	for _, f := range []written{
		{"missed once", 10, 7, 5, []api.Poke{poke(1, availWord, 6)},
			[]api.Access{load(availWord, 7), failed(availWord, 7, 2), load(availWord, 6), swapped(availWord, 6, 1), plus(limitWord, -5, 5)}, api.Ans{}, 5, 1},
		{"missed twice", 10, 7, 5, []api.Poke{poke(1, availWord, 6), poke(3, availWord, 5)},
			[]api.Access{load(availWord, 7), failed(availWord, 7, 2), load(availWord, 6), failed(availWord, 6, 1), load(availWord, 5), swapped(availWord, 5, 0), plus(limitWord, -5, 5)}, api.Ans{}, 5, 0},
		{"too few by then", 10, 7, 5, []api.Poke{poke(1, availWord, 4)},
			[]api.Access{load(availWord, 7), failed(availWord, 7, 2), load(availWord, 4)}, over(1), 10, 4},
		{"no more too few", 10, 4, 5, []api.Poke{poke(0, availWord, 5)},
			[]api.Access{load(availWord, 5), swapped(availWord, 5, 0), plus(limitWord, -5, 5)}, api.Ans{}, 5, 0},
		{"there and back again", 10, 7, 5, []api.Poke{poke(1, availWord, 0), poke(1, availWord, 7)},
			[]api.Access{load(availWord, 7), swapped(availWord, 7, 2), plus(limitWord, -5, 5)}, api.Ans{}, 5, 2},
		{"the limit may change", 10, 7, 5, []api.Poke{poke(1, limitWord, 3), poke(2, limitWord, 20)},
			[]api.Access{load(availWord, 7), swapped(availWord, 7, 2), plus(limitWord, -5, 15)}, api.Ans{}, 15, 2},
		{"what is available may change behind it", 10, 7, 5, []api.Poke{poke(2, availWord, 0)},
			[]api.Access{load(availWord, 7), swapped(availWord, 7, 2), plus(limitWord, -5, 5)}, api.Ans{}, 5, 0},
	} {
		f.check(t, Lower)
	}
}

// P9.1: each node has its own words, a refusal tells the node, and an error of a limit that would be too great tells none.
func TestEachNode(t *testing.T) {
	for nodes := 1; nodes <= api.MaxNodes; nodes++ {
		for _, stripes := range []int{1, 2, 4, 8} {
			c := set(nodes, stripes)
			for node := range nodes {
				first := node * (6 + 2*stripes)
				m := plan.Fresh(c)
				want := m.Words()
				for _, f := range []struct {
					x            *Machine
					ans          api.Ans
					limit, avail int
				}{
					{Lower(c, node, want[first]+1), over(node), 0, 0},
					{Lower(c, node, want[first]), api.Ans{}, -want[first], -want[first]},
					{Lower(c, node, 1), over(node), 0, 0},
					{Raise(c, node, 9), api.Ans{}, 9, 9},
					{Refund(c, node, 5), api.Ans{}, 0, 5},
				} {
					mem.Play(m, f.x, nil, 9)
					want[first] += f.limit
					want[first+1] += f.avail
					if got := m.Words(); f.x.Ans() != f.ans || !slices.Equal(got, want) {
						t.Errorf("node %d of %d, %d stripes: %v, %v; want %v, %v", node, nodes, stripes, f.x.Ans(), got, f.ans, want)
					}
				}
				m.Poke(first, maxLimit)
				x := Raise(c, node, 1)
				if mem.Play(m, x, nil, 9); x.Ans() != big() {
					t.Errorf("node %d of %d, %d stripes: %v", node, nodes, stripes, x.Ans())
				}
			}
		}
	}
}

// numbered is a machine as the chapter writes it: a step's number, and what it says of the next one.
type numbered struct {
	does         int
	limit, avail int
	node, n      int
	at, was      int
	ended        bool
	ans          api.Ans
}

// number is a machine whose words are counted out.
func number(does int, c api.Conf, node, n int) *numbered {
	first := node * (6 + 2*c.Stripes)
	return &numbered{does: does, limit: first, avail: first + 1, node: node, n: n}
}

func (r *numbered) Step(m *mem.Mem) bool {
	switch r.does {
	case raise:
		r.raise(m)
	case lower:
		r.lower(m)
	default:
		m.Add(r.avail, r.n)
		r.ended = true
	}
	return r.ended
}

func (r *numbered) raise(m *mem.Mem) {
	switch r.at {
	case 0:
		r.was, r.at = m.Load(r.limit), 1
		if r.n > maxLimit-r.was {
			r.ended, r.ans = true, big()
		}
	case 1:
		r.at = 0
		if m.Cas(r.limit, r.was, r.was+r.n) {
			r.at = 2
		}
	case 2:
		m.Add(r.avail, r.n)
		r.ended = true
	}
}

func (r *numbered) lower(m *mem.Mem) {
	switch r.at {
	case 0:
		r.was, r.at = m.Load(r.avail), 1
		if r.was-r.n < 0 {
			r.ended, r.ans = true, over(r.node)
		}
	case 1:
		r.at = 0
		if m.Cas(r.avail, r.was, r.was-r.n) {
			r.at = 2
		}
	case 2:
		m.Add(r.limit, -r.n)
		r.ended = true
	}
}

func (r *numbered) Ans() api.Ans { return r.ans }

// drawer picks one of so many, always by the same row.
func drawer(thread int) func(many int) int {
	x := draw.Begin(thread)
	return func(many int) int {
		x = draw.Next(x)
		return draw.Pick(x, many)
	}
}

func oneOf(pick func(int) int, l ...int) int { return l[pick(len(l))] }

func someAmount(pick func(int) int) int {
	return oneOf(pick, 1, 1, 2, 3, 4, 7, 1+pick(maxAmount), maxAmount)
}

func someLimit(pick func(int) int) int {
	return oneOf(pick, -maxLimit, -5, 0, 1, 10, pick(1000), maxLimit-pick(9), maxLimit-maxAmount, maxLimit)
}

func someAvail(pick func(int) int) int {
	return oneOf(pick, 0, 1, 2, 3, 5, pick(20), maxAmount-1, maxAmount, maxLimit-maxAmount)
}

func someSetting(pick func(int) int) api.Conf {
	return set(1+pick(api.MaxNodes), oneOf(pick, 1, 2, 4, 8))
}

// asItMayBe is what a word may be, if it is a limit, or what is available; of the others it is anything.
func asItMayBe(c api.Conf, pick func(int) int, w int) int {
	nodeWords := 6 + 2*c.Stripes
	switch behind := w % nodeWords; {
	case w < len(c.Parents)*nodeWords && behind == 0:
		return someLimit(pick)
	case w < len(c.Parents)*nodeWords && behind == 1:
		return someAvail(pick)
	}
	return pick(1000) - 500
}

func fill(m *mem.Mem, c api.Conf, pick func(int) int) {
	for w := range m.Len() {
		m.Poke(w, asItMayBe(c, pick, w))
	}
}

// disturb is what another thread may do to the words of a machine, or now and then to any.
func disturb(c api.Conf, pick func(int) int, node int) api.Poke {
	w := node*(6+2*c.Stripes) + pick(2)
	if pick(8) == 0 {
		w = pick(plan.Size(c))
	}
	return api.Poke{W: w, X: asItMayBe(c, pick, w)}
}

func copied(m *mem.Mem) *mem.Mem {
	other := mem.New(m.Len())
	for w, x := range m.Words() {
		other.Poke(w, x)
	}
	return other
}

// P9.1: whatever others do, all accesses, and answers, are those of the chapter's steps.
func TestAsNumberedSteps(t *testing.T) {
	pick := drawer(4)
	long := 0
	for round := range 9000 {
		c, does := someSetting(pick), pick(3)
		node, n := pick(len(c.Parents)), someAmount(pick)
		m := plan.Fresh(c)
		fill(m, c, pick)
		other := copied(m)
		var l []api.Poke
		for range pick(60) {
			p := disturb(c, pick, node)
			p.At = pick(20)
			l = append(l, p)
		}
		x, want := makers()[does](c, node, n), number(does, c, node, n)
		steps, last := mem.Play(m, x, l, 100)
		wantSteps, _ := mem.Play(other, want, l, 100)
		if steps != wantSteps || !last || x.Ans() != want.Ans() || !slices.Equal(m.Log(), other.Log()) || !slices.Equal(m.Words(), other.Words()) {
			t.Fatalf("round %d, %d, %+v, node %d, n %d: %d, %t, %v, %v; want %d, %v, %v", round, does, c, node, n, steps, last, x.Ans(), m.Log(), wantSteps, want.Ans(), other.Log())
		}
		if len(m.Log()) != steps {
			t.Fatalf("round %d: %d steps, %d accesses", round, steps, len(m.Log()))
		}
		if steps > 3 {
			long++
		}
	}
	if long < 900 {
		t.Errorf("only %d of 9000 were disturbed", long)
	}
}

// P9.1: only the last Step tells true, and there is no answer ahead of it; behind it nothing is done, and true is told.
func TestStepsBehindTheLast(t *testing.T) {
	for _, f := range []struct {
		name         string
		build        maker
		limit, avail int
		steps        int
		want         api.Ans
	}{
		{"a refund", Refund, 10, 4, 1, api.Ans{}},
		{"a raise", Raise, 10, 4, 3, api.Ans{}},
		{"too great", Raise, maxLimit - 4, 4, 1, big()},
		{"a lowering", Lower, 10, 9, 3, api.Ans{}},
		{"too few", Lower, 10, 4, 1, over(1)},
	} {
		c := set(3, 2)
		m := plan.Fresh(c)
		m.Poke(limitWord, f.limit)
		m.Poke(availWord, f.avail)
		x := f.build(c, 1, 5)
		for step := 1; step <= f.steps+4; step++ {
			if step <= f.steps && x.Ans() != (api.Ans{}) {
				t.Errorf("%s: %v ahead of step %d", f.name, x.Ans(), step)
			}
			last := x.Step(m)
			if last != (step >= f.steps) || len(m.Log()) != min(step, f.steps) {
				t.Errorf("%s, step %d: %t, %d accesses", f.name, step, last, len(m.Log()))
			}
			// What the words are by then makes no difference to an answer.
			if last {
				m.Poke(limitWord, 0)
				m.Poke(availWord, 0)
			}
		}
		if x.Ans() != f.want {
			t.Errorf("%s: %v", f.name, x.Ans())
		}
	}
}

// change is how much more a word is by one access.
func change(a api.Access) int {
	switch {
	case a.Kind == api.Add:
		return a.A
	case a.Kind == api.Cas && a.Ok:
		return a.B - a.A
	}
	return 0
}

// moved is how much more the limit, and what is available, are by a machine's own accesses; behind none of them is the limit less, beside what is available, than it was, and no other word is reached.
func moved(t *testing.T, log []api.Access, limit, avail int) (int, int) {
	t.Helper()
	byLimit, byAvail := 0, 0
	for _, a := range log {
		switch {
		case a.Kind == api.Store || a.W != limit && a.W != avail:
			t.Fatalf("%+v, of words %d and %d", a, limit, avail)
		case a.W == limit:
			byLimit += change(a)
		default:
			byAvail += change(a)
		}
		if byLimit < byAvail {
			t.Fatalf("the limit is %d more, what is available %d more, behind %v", byLimit, byAvail, log)
		}
	}
	return byLimit, byAvail
}

// P9.2 and P9.3: others poke whatever may be, ahead of each access.
func TestBothOrNone(t *testing.T) {
	pick := drawer(6)
	refused := [3]int{}
	for range 6000 {
		c, does := someSetting(pick), 1+pick(2)
		node, n := pick(len(c.Parents)), someAmount(pick)
		m := plan.Fresh(c)
		fill(m, c, pick)
		x, often, last := makers()[does](c, node, n), 1+pick(3), false
		for steps := 0; !last && steps < 1000; steps++ {
			for range pick(often) {
				p := disturb(c, pick, node)
				m.Poke(p.W, p.X)
			}
			last = x.Step(m)
		}
		if !last {
			t.Fatalf("%d, %+v, node %d, n %d: no end", does, c, node, n)
		}
		want := n
		if does == lower {
			want = -n
		}
		if x.Ans().Err != api.OK {
			want = 0
			refused[does]++
		}
		first := node * (6 + 2*c.Stripes)
		if byLimit, byAvail := moved(t, m.Log(), first, first+1); byLimit != want || byAvail != want {
			t.Fatalf("%d, %+v, node %d, n %d: %v, by %d and %d, by %v", does, c, node, n, x.Ans(), byLimit, byAvail, m.Log())
		}
	}
	for _, does := range []int{raise, lower} {
		if refused[does] < 300 || refused[does] > 2700 {
			t.Errorf("of some 3000 of %d %d were refused", does, refused[does])
		}
	}
}

// P9.2 and P9.3, alone, all small numbers, and those near the greatest: what each step leaves.
func TestAlone(t *testing.T) {
	for _, near := range []int{0, maxLimit - 6} {
		for limit := range 7 {
			for avail := range 7 {
				for n := 1; n <= 7; n++ {
					for does, build := range makers() {
						c := set(3, 2)
						m := plan.Fresh(c)
						m.Poke(limitWord, near+limit)
						m.Poke(availWord, avail)
						was, x := m.Words(), build(c, 1, n)
						for last, steps := false, 0; !last; steps++ {
							last = x.Step(m)
							w := m.Words()
							if does != refund && w[limitWord]-w[availWord] < near+limit-avail || w[availWord] < 0 || w[limitWord] > maxLimit || steps > 2 {
								t.Fatalf("%d, limit %d, available %d, n %d: %d, %d behind step %d", does, near+limit, avail, n, w[limitWord], w[availWord], steps)
							}
						}
						by, want := 0, api.Ans{}
						switch {
						case does == refund:
							was[availWord] += n
						case does == raise && near+limit+n > maxLimit:
							want = big()
						case does == raise:
							by = n
						case avail < n:
							want = over(1)
						default:
							by = -n
						}
						was[limitWord] += by
						was[availWord] += by
						if got := m.Words(); x.Ans() != want || !slices.Equal(got, was) {
							t.Errorf("%d, limit %d, available %d, n %d: %v, %v; want %v, %v", does, near+limit, avail, n, x.Ans(), got, want, was)
						}
					}
				}
			}
		}
	}
}

// ask is what a thread does at node 1; take is to acquire tokens of it.
type ask struct{ does, n int }

const take = lower + 1

// thread does one thing behind the other; what it has is all that it took, and did not give back yet.
type thread struct {
	asks   []ask
	stripe int
	on     mem.Machine
	had    int
	by     int // how much it moved the limit
}

// begin has the next machine come, unless all is ended; tokens that it has not can't go back.
func (x *thread) begin(c api.Conf) bool {
	for x.on == nil && len(x.asks) > 0 {
		a := x.asks[0]
		switch {
		case a.does == take:
			x.on = pool.New(c, 1, a.n, x.stripe)
		case a.does != refund:
			x.on = makers()[a.does](c, 1, a.n)
		case x.had >= a.n:
			x.on = Refund(c, 1, a.n)
			x.had -= a.n
		default:
			x.asks = x.asks[1:]
		}
	}
	return x.on != nil
}

// step makes one access, unless all is ended.
func (x *thread) step(c api.Conf, m *mem.Mem) {
	if !x.begin(c) || !x.on.Step(m) {
		return
	}
	a := x.asks[0]
	if x.on.Ans().Err == api.OK {
		switch a.does {
		case take:
			x.had += a.n
		case raise:
			x.by += a.n
		case lower:
			x.by -= a.n
		}
	}
	x.asks, x.on = x.asks[1:], nil
}

func hadByAll(l []*thread) int {
	had := 0
	for _, x := range l {
		had += x.had
	}
	return had
}

// together has threads step by a row of turns, then one behind the other, and checks that no more than the limit is ever had, or left, and that nothing is lost or made in the end.
func together(t *testing.T, c api.Conf, m *mem.Mem, l []*thread, turns []int) {
	t.Helper()
	first := 6 + 2*c.Stripes
	was, used := m.Words()[first], m.Words()[first]-pool.Left(m, c, 1)
	step := func(x *thread) {
		x.step(c, m)
		w := m.Words()
		if left := pool.Left(m, c, 1); w[first+1] < 0 || w[first]-left < used+hadByAll(l) {
			t.Fatalf("limit %d, left %d, had %d, behind %v", w[first], left, hadByAll(l), m.Log())
		}
	}
	for _, i := range turns {
		step(l[i])
	}
	for _, x := range l {
		for steps := 0; x.begin(c); steps++ {
			if step(x); steps > 200 {
				t.Fatalf("no end, alone, behind %v", m.Log())
			}
		}
		was += x.by
	}
	if limit, left := m.Words()[first], pool.Left(m, c, 1); limit != was || left != limit-used-hadByAll(l) {
		t.Errorf("the limit is %d, %d are left, %d had; want %d, by %v", limit, left, hadByAll(l), was, m.Log())
	}
}

// allRows has do go through all rows of so many turns of each.
func allRows(left []int, ahead []int, do func([]int)) {
	ended := true
	for i := range left {
		if left[i] > 0 {
			ended = false
			left[i]--
			allRows(left, append(ahead, i), do)
			left[i]++
		}
	}
	if ended {
		do(ahead)
	}
}

// P9.2 and P9.3: two threads, by all turns.
func TestTwoTogether(t *testing.T) {
	rows := [][]ask{
		{{lower, 4}, {raise, 3}},
		{{take, 3}, {refund, 3}},
		{{raise, 2}, {lower, 6}},
		{{take, 5}, {lower, 1}},
	}
	for _, a := range rows {
		for _, b := range rows {
			for _, limit := range []int{4, 9} {
				allRows([]int{5, 5}, nil, func(turns []int) {
					c := set(3, 2)
					c.Limits[1] = limit
					together(t, c, plan.Fresh(c), []*thread{{asks: a}, {asks: b, stripe: 1}}, turns)
				})
			}
		}
	}
}

// P9.2 and P9.3: many threads, by drawn turns.
func TestManyTogether(t *testing.T) {
	pick := drawer(7)
	for range 300 {
		c := set(3, oneOf(pick, 1, 2, 4, 8))
		c.Limits[1] = oneOf(pick, 0, 5, 30, maxAmount, maxLimit-maxAmount, maxLimit)
		var l []*thread
		for i := range 2 + pick(api.MaxThreads-1) {
			x := &thread{stripe: i % c.Stripes}
			for range 1 + pick(6) {
				n := someAmount(pick)
				x.asks = append(x.asks, ask{oneOf(pick, take, take, raise, lower, lower), n})
				if pick(2) == 0 {
					x.asks = append(x.asks, ask{refund, n})
				}
			}
			l = append(l, x)
		}
		var turns []int
		for range 80 {
			turns = append(turns, pick(len(l)))
		}
		together(t, c, plan.Fresh(c), l, turns)
	}
}

// P3: machines stand apart, and what one does hangs on what it was given alone.
func TestMachinesStandApart(t *testing.T) {
	c := set(3, 2)
	first, second := plan.Fresh(c), plan.Fresh(c)
	a, b, other := Raise(c, 1, 3), Raise(c, 1, 4), Lower(c, 2, 500)
	for range 3 {
		a.Step(first)
		b.Step(second)
		other.Step(second)
	}
	if a.Ans() != (api.Ans{}) || b.Ans() != (api.Ans{}) || other.Ans() != over(2) || first.Words()[limitWord] != 110 || second.Words()[limitWord] != 111 {
		t.Errorf("%v, %v, %v, by %v, and by %v", a.Ans(), b.Ans(), other.Ans(), first.Log(), second.Log())
	}
	again := plan.Fresh(c)
	mem.Play(again, Raise(c, 1, 3), nil, 9)
	if !slices.Equal(again.Log(), first.Log()) {
		t.Errorf("asked again: %v; the first time %v", again.Log(), first.Log())
	}
}

// P3: what is handed in stays as it is, its spare room too.
func TestSettingStays(t *testing.T) {
	c := set(3, 2)
	m := plan.Fresh(c)
	parents, limits := append(make([]int, 0, 9), c.Parents...), append(make([]int, 0, 9), c.Limits...)
	c.Parents, c.Limits = parents, limits
	wasParents, wasLimits := slices.Clone(parents[:9]), slices.Clone(limits[:9])
	for n := 1; n < 30; n++ {
		for _, build := range makers() {
			mem.Play(m, build(c, 1, n), nil, 9)
		}
	}
	if !slices.Equal(parents[:9], wasParents) || !slices.Equal(limits[:9], wasLimits) {
		t.Errorf("parents %v, limits %v; want %v, %v", parents[:9], limits[:9], wasParents, wasLimits)
	}
}

// Numbers of which nothing is said, and ordinary ones.
func anyNumbers() []int {
	return []int{math.MinInt, -1 << 40, -5, -1, 0, 1, 3, 9, 1 << 20, 1 << 40, 1 << 62, math.MaxInt}
}

// P1: nothing is said of other numbers, settings and words, but all calls end, and none panics.
func TestWrongInputsEnd(t *testing.T) {
	right := set(3, 2)
	mems := []*mem.Mem{nil, mem.New(0), mem.New(1), mem.New(11), plan.Fresh(right)}
	for _, a := range anyNumbers() {
		for _, b := range anyNumbers() {
			for _, m := range mems {
				for _, build := range makers() {
					mem.Play(m, build(right, a, b), nil, 30)
					mem.Play(m, build(api.Conf{Stripes: a}, b, 3), nil, 30)
				}
			}
		}
	}
	for _, x := range []*Machine{nil, {}} {
		m := plan.Fresh(right)
		if !x.Step(m) || x.Ans() != (api.Ans{}) || len(m.Log()) != 0 {
			t.Error("a machine of nothing goes on, or answers")
		}
	}
}
