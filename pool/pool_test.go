package pool

import (
	"math"
	"slices"
	"testing"

	"breadline/api"
	"breadline/draw"
	"breadline/mem"
	"breadline/plan"
)

var _ mem.Machine = (*Machine)(nil)

// set is a setting of tenants that all hang on the first one, with limits that all differ.
func set(nodes, stripes, lease int) api.Conf {
	c := api.Conf{Threads: 2, Stripes: stripes, Gate: 8, Lease: lease, Retry: 2, Tickets: 3}
	for node := range nodes {
		c.Parents = append(c.Parents, min(node, 1)-1)
		c.Limits = append(c.Limits, 100+7*node)
	}
	return c
}

// The words of node 1, where there are two stripes: what is available, and both leases.
const (
	availWord = 11
	otherWord = 12
	leaseWord = 13
)

// pool is a Mem of such a setting, in which node 1 has these words.
func pool(lease, avail, other, own int) (api.Conf, *mem.Mem) {
	c := set(3, 2, lease)
	m := plan.Fresh(c)
	m.Poke(availWord, avail)
	m.Poke(otherWord, other)
	m.Poke(leaseWord, own)
	return c, m
}

func load(w, a int) api.Access       { return api.Access{Kind: api.Load, W: w, A: a} }
func plus(w, a, b int) api.Access    { return api.Access{Kind: api.Add, W: w, A: a, B: b} }
func swapped(w, a, b int) api.Access { return api.Access{Kind: api.Cas, W: w, A: a, B: b, Ok: true} }
func failed(w, a, b int) api.Access  { return api.Access{Kind: api.Cas, W: w, A: a, B: b} }
func poke(at, w, x int) api.Poke     { return api.Poke{At: at, W: w, X: x} }

func over(node int) api.Ans { return api.Ans{Err: api.ErrOver, Node: node} }

// written is one whole run by the last one of two stripes of node 1, as the chapter's steps say it.
type written struct {
	name             string
	most             int // that a lease holds
	avail, other, at int // what is available, the other stripe's lease and its own
	n                int
	pokes            []api.Poke
	log              []api.Access
	want             api.Ans
	endAvail, endAt  int
}

func (f written) check(t *testing.T) {
	t.Helper()
	c, m := pool(f.most, f.avail, f.other, f.at)
	want := m.Words()
	want[availWord], want[leaseWord] = f.endAvail, f.endAt
	x := New(c, 1, f.n, 1)
	steps, last := mem.Play(m, x, f.pokes, 100)
	if steps != len(f.log) || !last || x.Ans() != f.want {
		t.Errorf("%s: %d steps, %t, %v; want %d, %v", f.name, steps, last, x.Ans(), len(f.log), f.want)
	}
	if got := m.Log(); !slices.Equal(got, f.log) {
		t.Errorf("%s: %v; want %v", f.name, got, f.log)
	}
	if got := m.Words(); !slices.Equal(got, want) {
		t.Errorf("%s: in the end %v; want %v", f.name, got, want)
	}
}

// P8.1, of H1: steps 0 and 1.
func TestByLease(t *testing.T) {
	for _, f := range []written{
		{"more than enough", 4, 20, 0, 3, 1, nil,
			[]api.Access{load(leaseWord, 3), swapped(leaseWord, 3, 2)}, api.Ans{}, 20, 2},
		{"just enough", 4, 20, 4, 3, 3, nil,
			[]api.Access{load(leaseWord, 3), swapped(leaseWord, 3, 0)}, api.Ans{}, 20, 0},
		{"nothing is available", 4, 0, 0, 2, 2, nil,
			[]api.Access{load(leaseWord, 2), swapped(leaseWord, 2, 0)}, api.Ans{}, 0, 0},
		{"the greatest amount of the greatest lease", 1 << 20, 5, 0, 1 << 20, 1 << 20, nil,
			[]api.Access{load(leaseWord, 1<<20), swapped(leaseWord, 1<<20, 0)}, api.Ans{}, 5, 0},
	} {
		f.check(t)
	}
}

// P8.1, of H1: steps 0, 2 and 3, where there is too little, or nothing for the lease.
func TestByWhatIsAvailable(t *testing.T) {
	for _, f := range []written{
		{"one too few", 4, 2, 0, 2, 3, nil,
			[]api.Access{load(leaseWord, 2), load(availWord, 2)}, over(1), 2, 2},
		{"none at all", 4, 0, 4, 0, 1, nil,
			[]api.Access{load(leaseWord, 0), load(availWord, 0)}, over(1), 0, 0},
		{"enough in both together, and in another's lease", 4, 4, 4, 4, 5, nil,
			[]api.Access{load(leaseWord, 4), load(availWord, 4)}, over(1), 4, 4},
		{"just enough", 4, 3, 0, 2, 3, nil,
			[]api.Access{load(leaseWord, 2), load(availWord, 3), swapped(availWord, 3, 0)}, api.Ans{}, 0, 2},
		{"leases hold nothing", 0, 20, 0, 0, 3, nil,
			[]api.Access{load(leaseWord, 0), load(availWord, 20), swapped(availWord, 20, 17)}, api.Ans{}, 17, 0},
		{"half of 1 is 0, downwards", 1, 20, 0, 0, 3, nil,
			[]api.Access{load(leaseWord, 0), load(availWord, 20), swapped(availWord, 20, 17)}, api.Ans{}, 17, 0},
		{"the greatest amount", 0, 1 << 40, 0, 0, 1 << 20, nil,
			[]api.Access{load(leaseWord, 0), load(availWord, 1<<40), swapped(availWord, 1<<40, 1<<40-1<<20)}, api.Ans{}, 1<<40 - 1<<20, 0},
	} {
		f.check(t)
	}
}

// P8.1, of H1: steps 4, 5 and 6, of the chapter's example among them.
func TestFilled(t *testing.T) {
	run := func(at, avail, rest, filled int) []api.Access {
		return []api.Access{load(leaseWord, at), load(availWord, avail), swapped(availWord, avail, rest), load(leaseWord, at), swapped(leaseWord, at, filled)}
	}
	for _, f := range []written{
		{"the example", 4, 20, 0, 0, 3, nil, run(0, 20, 15, 2), api.Ans{}, 15, 2},
		{"half, downwards", 5, 20, 3, 0, 3, nil, run(0, 20, 15, 2), api.Ans{}, 15, 2},
		{"one over is less than half", 4, 4, 0, 0, 3, nil, run(0, 4, 0, 1), api.Ans{}, 0, 1},
		{"just half is over", 4, 5, 0, 1, 3, nil, run(1, 5, 0, 3), api.Ans{}, 0, 3},
		{"up to just what it holds", 4, 20, 0, 2, 3, nil, run(2, 20, 15, 4), api.Ans{}, 15, 4},
		{"half of the greatest lease", 1 << 20, 1 << 40, 0, 0, 1 << 20, nil,
			run(0, 1<<40, 1<<40-1<<20-1<<19, 1<<19), api.Ans{}, 1<<40 - 1<<20 - 1<<19, 1 << 19},
		{"too full, alone", 4, 20, 0, 3, 4, nil,
			[]api.Access{load(leaseWord, 3), load(availWord, 20), swapped(availWord, 20, 14), load(leaseWord, 3), plus(availWord, 2, 16)}, api.Ans{}, 16, 3},
		{"by others to just what leaves room", 4, 20, 0, 0, 3, []api.Poke{poke(3, leaseWord, 2)},
			[]api.Access{load(leaseWord, 0), load(availWord, 20), swapped(availWord, 20, 15), load(leaseWord, 2), swapped(leaseWord, 2, 4)}, api.Ans{}, 15, 4},
		{"by others to one more", 4, 20, 0, 0, 3, []api.Poke{poke(3, leaseWord, 3)},
			[]api.Access{load(leaseWord, 0), load(availWord, 20), swapped(availWord, 20, 15), load(leaseWord, 3), plus(availWord, 2, 17)}, api.Ans{}, 17, 3},
		{"goes back on top of what others took", 4, 20, 0, 0, 3, []api.Poke{poke(3, leaseWord, 4), poke(4, availWord, 6)},
			[]api.Access{load(leaseWord, 0), load(availWord, 20), swapped(availWord, 20, 15), load(leaseWord, 4), plus(availWord, 2, 8)}, api.Ans{}, 8, 4},
	} {
		f.check(t)
	}
}

// P8.1, of H1: a lease that another thread changed ahead of step 1, or of step 5.
func TestLeaseMissed(t *testing.T) {
	for _, f := range []written{
		{"still enough", 4, 20, 0, 3, 2, []api.Poke{poke(1, leaseWord, 2)},
			[]api.Access{load(leaseWord, 3), failed(leaseWord, 3, 1), load(leaseWord, 2), swapped(leaseWord, 2, 0)}, api.Ans{}, 20, 0},
		{"more than before", 4, 20, 0, 3, 2, []api.Poke{poke(1, leaseWord, 4)},
			[]api.Access{load(leaseWord, 3), failed(leaseWord, 3, 1), load(leaseWord, 4), swapped(leaseWord, 4, 2)}, api.Ans{}, 20, 2},
		{"too little by then", 4, 2, 0, 3, 2, []api.Poke{poke(1, leaseWord, 1)},
			[]api.Access{load(leaseWord, 3), failed(leaseWord, 3, 1), load(leaseWord, 1), load(availWord, 2), swapped(availWord, 2, 0)}, api.Ans{}, 0, 1},
		{"too little everywhere by then", 4, 1, 0, 3, 2, []api.Poke{poke(1, leaseWord, 1)},
			[]api.Access{load(leaseWord, 3), failed(leaseWord, 3, 1), load(leaseWord, 1), load(availWord, 1)}, over(1), 1, 1},
		{"filled by another, and not looked at again", 4, 1, 0, 1, 2, []api.Poke{poke(1, leaseWord, 4)},
			[]api.Access{load(leaseWord, 1), load(availWord, 1)}, over(1), 1, 4},
		{"room is looked for again", 4, 20, 0, 0, 3, []api.Poke{poke(4, leaseWord, 1)},
			[]api.Access{load(leaseWord, 0), load(availWord, 20), swapped(availWord, 20, 15), load(leaseWord, 0), failed(leaseWord, 0, 2), load(leaseWord, 1), swapped(leaseWord, 1, 3)}, api.Ans{}, 15, 3},
		{"no room by then", 4, 20, 0, 0, 3, []api.Poke{poke(4, leaseWord, 3)},
			[]api.Access{load(leaseWord, 0), load(availWord, 20), swapped(availWord, 20, 15), load(leaseWord, 0), failed(leaseWord, 0, 2), load(leaseWord, 3), plus(availWord, 2, 17)}, api.Ans{}, 17, 3},
	} {
		f.check(t)
	}
}

// P8.1, of H1: what is available was changed ahead of step 3: that is looked at again, the lease is not.
func TestAvailableMissed(t *testing.T) {
	for _, f := range []written{
		{"too little by then", 4, 20, 0, 0, 3, []api.Poke{poke(2, availWord, 2)},
			[]api.Access{load(leaseWord, 0), load(availWord, 20), failed(availWord, 20, 15), load(availWord, 2)}, over(1), 2, 0},
		{"too little, though the lease has enough by then", 4, 20, 0, 0, 3, []api.Poke{poke(2, availWord, 2), poke(2, leaseWord, 4)},
			[]api.Access{load(leaseWord, 0), load(availWord, 20), failed(availWord, 20, 15), load(availWord, 2)}, over(1), 2, 4},
		{"less for the lease by then", 4, 20, 0, 0, 3, []api.Poke{poke(2, availWord, 4)},
			[]api.Access{load(leaseWord, 0), load(availWord, 20), failed(availWord, 20, 15), load(availWord, 4), swapped(availWord, 4, 0), load(leaseWord, 0), swapped(leaseWord, 0, 1)}, api.Ans{}, 0, 1},
		{"nothing for the lease by then", 4, 20, 0, 0, 3, []api.Poke{poke(2, availWord, 3)},
			[]api.Access{load(leaseWord, 0), load(availWord, 20), failed(availWord, 20, 15), load(availWord, 3), swapped(availWord, 3, 0)}, api.Ans{}, 0, 0},
		{"something for the lease by then", 4, 3, 0, 0, 3, []api.Poke{poke(2, availWord, 9)},
			[]api.Access{load(leaseWord, 0), load(availWord, 3), failed(availWord, 3, 0), load(availWord, 9), swapped(availWord, 9, 4), load(leaseWord, 0), swapped(leaseWord, 0, 2)}, api.Ans{}, 4, 2},
		{"again and again", 4, 20, 0, 0, 3, []api.Poke{poke(2, availWord, 19), poke(4, availWord, 18), poke(6, availWord, 2)},
			[]api.Access{load(leaseWord, 0), load(availWord, 20), failed(availWord, 20, 15), load(availWord, 19), failed(availWord, 19, 14), load(availWord, 18), failed(availWord, 18, 13), load(availWord, 2)}, over(1), 2, 0},
	} {
		f.check(t)
	}
}

// P8.1, of H1: a refusal tells the node, whichever it is.
func TestRefusedByEachNode(t *testing.T) {
	for nodes := 1; nodes <= api.MaxNodes; nodes++ {
		c := set(nodes, 4, 6)
		for node, limit := range c.Limits {
			m, x := plan.Fresh(c), New(c, node, limit+1, 3)
			if steps, last := mem.Play(m, x, nil, 9); steps != 2 || !last || x.Ans() != over(node) {
				t.Errorf("node %d of %d: %d steps, %t, %v", node, nodes, steps, last, x.Ans())
			}
		}
	}
}

// numbered is the machine as the chapter writes it: a step's number, and what it says of the next one.
type numbered struct {
	lease, avail, most int
	node, n            int
	at, l, a, e        int
	ended              bool
	ans                api.Ans
}

// number is a machine whose words are counted out.
func number(c api.Conf, node, n, stripe int) *numbered {
	first := node * (6 + 2*c.Stripes)
	return &numbered{lease: first + 2 + stripe, avail: first + 1, most: c.Lease, node: node, n: n}
}

func (r *numbered) Step(m *mem.Mem) bool {
	switch r.at {
	case 0:
		r.l, r.at = m.Load(r.lease), 2
		if r.l >= r.n {
			r.at = 1
		}
	case 1:
		r.ended, r.at = m.Cas(r.lease, r.l, r.l-r.n), 0
	case 2:
		r.a, r.at = m.Load(r.avail), 3
		if r.a < r.n {
			r.ended, r.ans = true, over(r.node)
		}
		r.e = r.most / 2
		if r.a-r.n < r.e {
			r.e = r.a - r.n
		}
	case 3:
		r.at = 2
		if m.Cas(r.avail, r.a, r.a-r.n-r.e) {
			r.at, r.ended = 4, r.e == 0
		}
	case 4:
		r.l, r.at = m.Load(r.lease), 6
		if r.l+r.e <= r.most {
			r.at = 5
		}
	case 5:
		r.ended, r.at = m.Cas(r.lease, r.l, r.l+r.e), 4
	case 6:
		m.Add(r.avail, r.e)
		r.ended = true
	}
	return r.ended
}

func (r *numbered) Ans() api.Ans { return r.ans }

// drawer picks one of so many, always by the same row.
func drawer(thread int) func(many int) int {
	x := draw.Begin(thread)
	return func(many int) int {
		x = draw.Next(x)
		return draw.Pick(x, many)
	}
}

func oneOf(pick func(int) int, l ...int) int { return l[pick(len(l))] }

func someLease(pick func(int) int) int { return oneOf(pick, 0, 1, 2, 3, 4, 9, 1<<20-1, 1<<20) }

func someAmount(pick func(int) int) int { return oneOf(pick, 1, 1, 2, 3, 4, 7, 1<<20) }

// someSetting has so many tenants and stripes as may be, and leases of any size.
func someSetting(pick func(int) int) api.Conf {
	return set(1+pick(api.MaxNodes), oneOf(pick, 1, 2, 4, 8), someLease(pick))
}

// asAPool is what a word may be, if it is one of a pool: what is available, or a lease; of the others it is anything.
func asAPool(c api.Conf, pick func(int) int, w int) int {
	nodeWords := 6 + 2*c.Stripes
	switch behind := w % nodeWords; {
	case w >= len(c.Parents)*nodeWords || behind == 0 || behind >= 2+c.Stripes:
		return pick(1000) - 500
	case behind == 1:
		return oneOf(pick, 0, 1, 2, 3, 5, pick(20), 1<<20, 1<<40)
	}
	return min(c.Lease, oneOf(pick, 0, 1, 2, 3, c.Lease/2, c.Lease, pick(1<<20)))
}

func fill(m *mem.Mem, c api.Conf, pick func(int) int) {
	for w := range m.Len() {
		m.Poke(w, asAPool(c, pick, w))
	}
}

// disturb is what another thread may do to the words of a machine, or now and then to any.
func disturb(c api.Conf, pick func(int) int, node, stripe int) api.Poke {
	first := node * (6 + 2*c.Stripes)
	w := oneOf(pick, first+1, first+2+stripe)
	if pick(8) == 0 {
		w = pick(plan.Size(c))
	}
	return api.Poke{W: w, X: asAPool(c, pick, w)}
}

func copied(m *mem.Mem) *mem.Mem {
	other := mem.New(m.Len())
	for w, x := range m.Words() {
		other.Poke(w, x)
	}
	return other
}

// P8.1, of H1: whatever others do, all accesses, and answers, are those of the chapter's steps.
func TestAsNumberedSteps(t *testing.T) {
	pick := drawer(3)
	long := 0
	for round := range 6000 {
		c := someSetting(pick)
		node, n, stripe := pick(len(c.Parents)), someAmount(pick), pick(c.Stripes)
		m := plan.Fresh(c)
		fill(m, c, pick)
		other := copied(m)
		var l []api.Poke
		for range pick(80) {
			p := disturb(c, pick, node, stripe)
			p.At = pick(20)
			l = append(l, p)
		}
		x, want := New(c, node, n, stripe), number(c, node, n, stripe)
		steps, last := mem.Play(m, x, l, 100)
		wantSteps, _ := mem.Play(other, want, l, 100)
		if steps != wantSteps || !last || x.Ans() != want.Ans() || !slices.Equal(m.Log(), other.Log()) || !slices.Equal(m.Words(), other.Words()) {
			t.Fatalf("round %d, %+v, node %d, n %d, stripe %d: %d, %t, %v, %v; want %d, %v, %v", round, c, node, n, stripe, steps, last, x.Ans(), m.Log(), wantSteps, want.Ans(), other.Log())
		}
		if len(m.Log()) != steps {
			t.Fatalf("round %d: %d steps, %d accesses", round, steps, len(m.Log()))
		}
		if steps > 6 {
			long++
		}
	}
	if long < 500 {
		t.Errorf("only %d of 6000 were disturbed often", long)
	}
}

// P8.1, of H1: only the last Step tells true, and there is no answer ahead of it; behind it nothing is done, and true is told.
func TestStepsBehindTheLast(t *testing.T) {
	for _, f := range []struct {
		avail, own, n, steps int
		want                 api.Ans
	}{
		{20, 3, 3, 2, api.Ans{}},
		{2, 0, 3, 2, over(1)},
		{3, 0, 3, 3, api.Ans{}},
		{20, 0, 3, 5, api.Ans{}},
		{20, 3, 4, 5, api.Ans{}},
	} {
		c, m := pool(4, f.avail, 0, f.own)
		x := New(c, 1, f.n, 1)
		for step := 1; step <= f.steps+4; step++ {
			if step <= f.steps && x.Ans() != (api.Ans{}) {
				t.Errorf("%+v: %v ahead of step %d", f, x.Ans(), step)
			}
			last := x.Step(m)
			if last != (step >= f.steps) || len(m.Log()) != min(step, f.steps) {
				t.Errorf("%+v, step %d: %t, %d accesses", f, step, last, len(m.Log()))
			}
		}
		if x.Ans() != f.want {
			t.Errorf("%+v: %v", f, x.Ans())
		}
	}
}

// P8.1, of H2: what is available, and all leases; limits, counters and other nodes' words are no part of it.
func TestLeft(t *testing.T) {
	for _, f := range []struct {
		avail  int
		leases []int
		want   int
	}{
		{0, []int{0}, 0},
		{7, []int{0}, 7},
		{0, []int{3}, 3},
		{1 << 40, []int{1 << 20}, 1<<40 + 1<<20},
		{20, []int{1, 2}, 23},
		{0, []int{4, 0}, 4},
		{5, []int{1, 2, 3, 4}, 15},
		{5, []int{1, 2, 3, 4, 10, 20, 30, 40}, 115},
	} {
		for nodes := 1; nodes <= api.MaxNodes; nodes++ {
			c := set(nodes, len(f.leases), 1<<20)
			for node := range nodes {
				m := mem.New(plan.Size(c))
				for w := range m.Len() {
					m.Poke(w, 1<<50+w)
				}
				m.Poke(plan.Avail(c, node), f.avail)
				for stripe, l := range f.leases {
					m.Poke(plan.Lease(c, node, stripe), l)
				}
				was := m.Words()
				if got := Left(m, c, node); got != f.want {
					t.Errorf("node %d of %d, %d, %v: %d; want %d", node, nodes, f.avail, f.leases, got, f.want)
				}
				if len(m.Log()) != 0 || !slices.Equal(m.Words(), was) {
					t.Errorf("node %d of %d: asked, %v, by %v", node, nodes, m.Words(), m.Log())
				}
			}
		}
	}
}

// P8.1, of H2: at first a limit is what is left, and what is acquired is not, nor from another node.
func TestLeftBehindOthers(t *testing.T) {
	c := set(3, 2, 4)
	m := plan.Fresh(c)
	want := []int{100, 107, 114}
	for i, f := range []struct{ node, n, stripe int }{{0, 3, 0}, {1, 100, 1}, {0, 2, 0}, {2, 114, 1}, {1, 3, 0}, {2, 1, 0}} {
		x := New(c, f.node, f.n, f.stripe)
		mem.Play(m, x, nil, 9)
		if x.Ans().Err == api.OK {
			want[f.node] -= f.n
		}
		for node := range want {
			if got := Left(m, c, node); got != want[node] {
				t.Errorf("behind %d: %d is left of node %d; want %d", i, got, node, want[node])
			}
		}
	}
	if !slices.Equal(want, []int{95, 4, 0}) {
		t.Errorf("%v are left", want)
	}
}

// change is how much more is left of a pool by one access.
func change(a api.Access) int {
	switch {
	case a.Kind == api.Add:
		return a.A
	case a.Kind == api.Cas && a.Ok:
		return a.B - a.A
	}
	return 0
}

// took is how much less is left by all accesses, of which none but those to the machine's own two words may alter any.
func took(t *testing.T, log []api.Access, avail, lease int) int {
	n := 0
	for _, a := range log {
		n -= change(a)
		if a.Kind == api.Store || a.W != avail && a.W != lease {
			t.Errorf("%+v, of words %d and %d", a, avail, lease)
		}
	}
	return n
}

// P8.2: others poke whatever a pool may be, ahead of each access.
func TestJustSoMany(t *testing.T) {
	pick := drawer(8)
	refused := 0
	for range 4000 {
		c := someSetting(pick)
		node, n, stripe := pick(len(c.Parents)), someAmount(pick), pick(c.Stripes)
		m := plan.Fresh(c)
		fill(m, c, pick)
		x, often, last := New(c, node, n, stripe), 1+pick(3), false
		for steps := 0; !last && steps < 1000; steps++ {
			for range pick(often) {
				p := disturb(c, pick, node, stripe)
				m.Poke(p.W, p.X)
			}
			last = x.Step(m)
		}
		if !last {
			t.Fatalf("%+v, node %d, n %d, stripe %d: no end", c, node, n, stripe)
		}
		want := n
		if x.Ans().Err == api.ErrOver {
			want = 0
			refused++
		}
		first := node * (6 + 2*c.Stripes)
		if got := took(t, m.Log(), first+1, first+2+stripe); got != want {
			t.Fatalf("%+v, node %d, n %d, stripe %d: %v, took %d, by %v", c, node, n, stripe, x.Ans(), got, m.Log())
		}
		for s := range c.Stripes {
			if l := m.Words()[first+2+s]; l < 0 || l > c.Lease {
				t.Fatalf("%+v, node %d, n %d: lease %d is %d", c, node, n, s, l)
			}
		}
	}
	if refused < 400 || refused > 3600 {
		t.Errorf("of 4000 %d were refused", refused)
	}
}

// P8.2 and P8.3: alone, all small numbers; whether it is refused, how many are left, and which words are altered.
func TestAlone(t *testing.T) {
	for most := range 7 {
		for avail := range 9 {
			for own := range most + 1 {
				for n := 1; n <= 9; n++ {
					c, m := pool(most, avail, most, own)
					was, left := m.Words(), Left(m, c, 1)
					x := New(c, 1, n, 1)
					steps, last := mem.Play(m, x, nil, 6)
					want := api.Ans{}
					if own < n && avail < n {
						want = over(1)
					} else {
						left -= n
					}
					if !last || steps > 5 || x.Ans() != want || Left(m, c, 1) != left {
						t.Errorf("leases hold %d, available %d, own %d, n %d: %d steps, %t, %v, left %d; want %v, %d", most, avail, own, n, steps, last, x.Ans(), Left(m, c, 1), want, left)
					}
					is := m.Words()
					if is[availWord] < 0 || is[leaseWord] < 0 || is[leaseWord] > most {
						t.Errorf("leases hold %d, available %d, own %d, n %d: available %d, own %d", most, avail, own, n, is[availWord], is[leaseWord])
					}
					was[availWord], was[leaseWord] = is[availWord], is[leaseWord]
					if !slices.Equal(is, was) {
						t.Errorf("leases hold %d, available %d, own %d, n %d: %v; want %v", most, avail, own, n, is, was)
					}
				}
			}
		}
	}
}

// P8.3: alone, at the greatest numbers too.
func TestAloneAtAnyNumbers(t *testing.T) {
	pick := drawer(5)
	for range 4000 {
		c := someSetting(pick)
		node, n, stripe := pick(len(c.Parents)), someAmount(pick), pick(c.Stripes)
		m := plan.Fresh(c)
		fill(m, c, pick)
		first := node * (6 + 2*c.Stripes)
		w := m.Words()
		refused := w[first+1] < n && w[first+2+stripe] < n
		x := New(c, node, n, stripe)
		if steps, last := mem.Play(m, x, nil, 6); !last || steps > 5 || (x.Ans() == over(node)) != refused || (x.Ans() == api.Ans{}) == refused {
			t.Errorf("%+v, %v, node %d, n %d, stripe %d: %d steps, %t, %v", c, w, node, n, stripe, steps, last, x.Ans())
		}
	}
}

// thread acquires amounts of node 1, one behind the other; what it took so far is had, or on its way.
type thread struct {
	amounts []int
	stripe  int
	on      *Machine
	had     int
}

// step makes one access, unless all is ended.
func (x *thread) step(c api.Conf, m *mem.Mem) {
	if len(x.amounts) == 0 {
		return
	}
	if x.on == nil {
		x.on = New(c, 1, x.amounts[0], x.stripe)
	}
	if !x.on.Step(m) {
		return
	}
	if x.on.Ans().Err == api.OK {
		x.had += x.amounts[0]
	}
	x.amounts, x.on = x.amounts[1:], nil
}

// together has threads step by a row of turns, then one behind the other, and checks that nothing is ever below 0 or beyond what a lease holds, nor lost or made in the end.
func together(t *testing.T, c api.Conf, m *mem.Mem, l []*thread, turns func(yield func(int) bool)) {
	t.Helper()
	was, node := Left(m, c, 1), 6+2*c.Stripes
	step := func(x *thread) {
		x.step(c, m)
		w := m.Words()[node : 2*node]
		if w[1] < 0 || slices.Min(w[2:2+c.Stripes]) < 0 || slices.Max(w[2:2+c.Stripes]) > c.Lease || Left(m, c, 1) > was {
			t.Fatalf("%+v: %v, behind %v", c, w, m.Log())
		}
	}
	for i := range turns {
		step(l[i])
	}
	had := 0
	for _, x := range l {
		for range 1000 {
			step(x)
			if len(x.amounts) == 0 {
				break
			}
		}
		had += x.had
		if len(x.amounts) > 0 {
			t.Fatalf("%+v: no end, alone, behind %v", c, m.Log())
		}
	}
	if left := Left(m, c, 1); left != was-had {
		t.Errorf("%+v: %d of %d are left, %d had, by %v", c, left, was, had, m.Log())
	}
}

// allRows has do go through all rows of so many turns of each.
func allRows(left []int, ahead []int, do func([]int)) {
	ended := true
	for i := range left {
		if left[i] > 0 {
			ended = false
			left[i]--
			allRows(left, append(ahead, i), do)
			left[i]++
		}
	}
	if ended {
		do(ahead)
	}
}

// P8.2: two threads, of one stripe and of two, by all turns.
func TestTwoTogether(t *testing.T) {
	for _, avail := range []int{3, 5, 8, 20} {
		for _, own := range []int{0, 2, 3} {
			for _, stripe := range []int{0, 1} {
				allRows([]int{6, 6}, nil, func(turns []int) {
					c, m := pool(4, avail, 1, own)
					together(t, c, m, []*thread{{amounts: []int{3, 1}, stripe: 1}, {amounts: []int{2, 4}, stripe: stripe}}, func(yield func(int) bool) {
						for _, i := range turns {
							if !yield(i) {
								return
							}
						}
					})
				})
			}
		}
	}
}

// P8.2: many threads, by drawn turns.
func TestManyTogether(t *testing.T) {
	pick := drawer(9)
	for range 1500 {
		c := set(3, oneOf(pick, 1, 2, 4, 8), someLease(pick))
		c.Limits[1] = oneOf(pick, 0, 5, 30, 1<<20, 1<<40)
		var l []*thread
		for i := range 2 + pick(api.MaxThreads-1) {
			x := &thread{stripe: i % c.Stripes}
			for range 1 + pick(5) {
				x.amounts = append(x.amounts, someAmount(pick))
			}
			l = append(l, x)
		}
		together(t, c, plan.Fresh(c), l, func(yield func(int) bool) {
			for range 60 {
				if !yield(pick(len(l))) {
					return
				}
			}
		})
	}
}

// P3: machines stand apart, and what one does hangs on what it was given alone.
func TestMachinesStandApart(t *testing.T) {
	c := set(3, 2, 4)
	first, second := plan.Fresh(c), plan.Fresh(c)
	a, b := New(c, 1, 3, 1), New(c, 1, 200, 1)
	for range 5 {
		a.Step(first)
		b.Step(second)
	}
	if a.Ans() != (api.Ans{}) || b.Ans() != over(1) || len(first.Log()) != 5 || len(second.Log()) != 2 {
		t.Errorf("%v by %d, %v by %d", a.Ans(), len(first.Log()), b.Ans(), len(second.Log()))
	}
	again := plan.Fresh(c)
	mem.Play(again, New(c, 1, 3, 1), nil, 9)
	if !slices.Equal(again.Log(), first.Log()) {
		t.Errorf("asked again: %v; the first time %v", again.Log(), first.Log())
	}
}

// P3: what is handed in stays as it is, its spare room too.
func TestSettingStays(t *testing.T) {
	c, m := pool(4, 20, 0, 0)
	parents, limits := append(make([]int, 0, 9), c.Parents...), append(make([]int, 0, 9), c.Limits...)
	c.Parents, c.Limits = parents, limits
	wasParents, wasLimits := slices.Clone(parents[:9]), slices.Clone(limits[:9])
	for n := 1; n < 30; n++ {
		mem.Play(m, New(c, 1, n, 1), nil, 9)
		Left(m, c, 1)
	}
	if !slices.Equal(parents[:9], wasParents) || !slices.Equal(limits[:9], wasLimits) {
		t.Errorf("parents %v, limits %v; want %v, %v", parents[:9], limits[:9], wasParents, wasLimits)
	}
}

// Numbers of which nothing is said, and ordinary ones.
func anyNumbers() []int {
	return []int{math.MinInt, -1 << 40, -5, -1, 0, 1, 3, 9, 1 << 20, 1 << 40, 1 << 62, math.MaxInt}
}

// P1: nothing is said of other numbers, settings and words, but all calls end, and none panics.
func TestWrongInputsEnd(t *testing.T) {
	right := set(3, 2, 4)
	mems := []*mem.Mem{nil, mem.New(0), mem.New(1), mem.New(12), plan.Fresh(right)}
	for _, a := range anyNumbers() {
		for _, b := range anyNumbers() {
			for _, m := range mems {
				Left(m, right, a)
				Left(m, api.Conf{Stripes: a, Lease: b}, 0)
				Left(m, api.Conf{Stripes: a}, b)
				mem.Play(m, New(right, a, b, 0), nil, 30)
				mem.Play(m, New(right, 1, a, b), nil, 30)
				mem.Play(m, New(api.Conf{Stripes: a, Lease: b}, 1, 3, 0), nil, 30)
			}
		}
	}
	for _, x := range []*Machine{nil, {}} {
		m := plan.Fresh(right)
		if !x.Step(m) || x.Ans() != (api.Ans{}) || len(m.Log()) != 0 {
			t.Error("a machine of nothing goes on, or answers")
		}
	}
}
