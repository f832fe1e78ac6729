package sample

import (
	"slices"
	"testing"

	"breadline/add"
	"breadline/api"
	"breadline/mem"
	"breadline/pack"
	"breadline/plan"
	"breadline/pool"
	"breadline/slot"
	"breadline/tree"
)

// Settings are right, and what is drawn of them is such as there is.
func TestDrawn(t *testing.T) {
	pick := Drawer(5)
	for range 3000 {
		c := pick.Setting()
		if !tree.Right(c) || !tree.Leaf(c, pick.Leaf(c)) {
			t.Fatalf("%+v", c)
		}
		if n := pick.Amount(); n < 1 || n > api.MaxAmount {
			t.Fatalf("amount %d", n)
		}
	}
	for _, c := range []api.Conf{Few(), Chain(1, 1, 1), Chain(api.MaxNodes, api.MaxStripes, api.MaxTickets)} {
		if !tree.Right(c) {
			t.Errorf("%+v", c)
		}
	}
}

// Calls that are drawn are of all kinds, and some of none.
func TestCalls(t *testing.T) {
	pick := Drawer(8)
	times, released := map[int]int{}, map[int]int{}
	for range 3000 {
		c := pick.Setting()
		x := pick.Call(c, 32, 65)
		times[x.Kind]++
		if x.Kind == api.Release {
			released[x.N]++
		}
		if y := pick.Call(c); y.Kind == api.Admit && y.N > 0 && tree.Leaf(c, y.Node) {
			times[-9]++
		}
	}
	for kind, few := range map[int]int{api.Admit: 600, api.Release: 300, api.Raise: 300, api.Lower: 300, api.Usage: 300, api.Peek: 300, -1: 5, 0: 5, 7: 5, -9: 600} {
		if times[kind] < few {
			t.Errorf("of 3000 there were %v", times)
		}
	}
	if released[32] < 100 || released[65] < 100 {
		t.Errorf("what was to be released was %v", released)
	}
}

// Scripts are such as may be: rows and calls of all numbers up to the most; what is likely is told by admissions.
func TestScripts(t *testing.T) {
	if l := Likely(Few()); !slices.Equal(l, []int{32, 33, 34, 64, 65, 66, 96, 97, 98}) {
		t.Errorf("%v", l)
	}
	pick := Drawer(7)
	rows, calls := map[int]int{}, map[int]int{}
	for range 2000 {
		l := pick.Script(Few(), 3)
		rows[len(l)]++
		for _, row := range l {
			calls[len(row)]++
		}
	}
	for _, n := range []int{0, 1, 2} {
		if rows[n] < 100 || calls[n] < 500 {
			t.Errorf("there were %v, of %v", rows, calls)
		}
	}
	if len(rows) != 3 || calls[3] < 500 || len(calls) != 4 {
		t.Errorf("there were %v, of %v", rows, calls)
	}
}

// What is laid out is as it was handed in, and stands apart from it, as a list with spare room does.
func TestLaidOut(t *testing.T) {
	l := []int{3, 1, 2}
	m, more := LaidOut(l), Spacious(l)
	if !slices.Equal(m.Words(), l) || len(m.Log()) != 0 || !slices.Equal(more, l) || cap(more) < 6 || !slices.Equal(more[:6], []int{3, 1, 2, 7, 7, 7}) {
		t.Errorf("%v, %v, %v", m.Words(), m.Log(), more)
	}
	m.Poke(0, 9)
	more[1] = 9
	if !slices.Equal(l, []int{3, 1, 2}) {
		t.Errorf("%v", l)
	}
}

// Turns are those of all threads; answers are told by their errors.
func TestTurns(t *testing.T) {
	turns := Drawer(9).Turns(3)
	times := [3]int{}
	for _, i := range turns {
		times[i]++
	}
	if len(turns) < 300 || len(turns) > 900 || min(times[0], times[1], times[2]) < 100 {
		t.Errorf("%v, in %v", times, turns)
	}
	told := map[api.Errno]int{api.ErrOver: 1}
	Tally(told, []*Thread{{Ans: []api.Ans{{Err: api.ErrOver}, {N: 3}}}, {}, {Ans: []api.Ans{{Err: api.ErrOver}}}})
	if told[api.ErrOver] != 3 || told[api.OK] != 1 || len(told) != 2 {
		t.Errorf("%v", told)
	}
}

// What others do leaves words as pools, counters and tickets may be, and a ticket that is kept as it is.
func TestDisturbed(t *testing.T) {
	pick := Drawer(6)
	for range 300 {
		c := pick.Setting()
		m := plan.Fresh(c)
		for range 200 {
			m.Poke(pick.Disturb(c, 0))
		}
		words := m.Words()
		for node := range c.Parents {
			if l := words[Live(c, node)]; l < 1 || l > c.Stripes || l&(l-1) != 0 || words[plan.Avail(c, node)] < 0 {
				t.Fatalf("%+v, node %d: %v", c, node, words)
			}
			for stripe := range c.Stripes {
				value, lease := pack.Value(words[Stripe(c, node, stripe)]), words[plan.Lease(c, node, stripe)]
				if value <= -c.Gate || value >= c.Gate || lease < 0 || lease > c.Lease {
					t.Fatalf("%+v, node %d: %v", c, node, words)
				}
			}
		}
		for k := range c.Tickets {
			if w := words[plan.Ticket(c, k)]; slot.State(w) < 0 || k == 0 && w != 0 {
				t.Fatalf("%+v: ticket %d is %d", c, k, w)
			}
		}
	}
}

// What is told of words, and accesses, is what was laid, and done.
func TestTold(t *testing.T) {
	c := Few()
	m := plan.Fresh(c)
	if TooMuch(c, m.Words()) != -1 || Amiss(c, m.Words()) != -1 || Handles(c, m.Words()) != nil {
		t.Error("fresh words")
	}
	mem.Play(m, pool.New(c, 3, 2, 1), nil, 9)
	mem.Play(m, add.New(plan.Counter(c, 3), c.Stripes, c.Gate, 2, 0), nil, 9)
	if left, counted := Moved(c, m.Log(), 3); left != -2 || counted != 2 {
		t.Errorf("%d, %d, by %v", left, counted, m.Log())
	}
	if l := Look(c, m.Words(), 3); l != (Laid{Limit: 5, Left: 3, Sum: 2}) {
		t.Errorf("%+v", l)
	}
	if node := Amiss(c, m.Words()); node != 3 {
		t.Errorf("amiss is %d", node)
	}
	m.Poke(plan.Ticket(c, 2), Word(2, 2))
	m.Poke(plan.Ticket(c, 2)+1, 3<<21+2)
	if l := Used(c, m.Words()); !slices.Equal(l, []int{2, 0, 0, 2}) || !slices.Equal(Handles(c, m.Words()), []int{34}) {
		t.Errorf("%v, %v", l, Handles(c, m.Words()))
	}
	if much, amiss := TooMuch(c, m.Words()), Amiss(c, m.Words()); much != 0 || amiss != 0 {
		t.Errorf("too much is %d, amiss is %d", much, amiss)
	}
	m.Poke(plan.Avail(c, 0), 18)
	m.Poke(plan.Counter(c, 0), 2)
	if much, amiss := TooMuch(c, m.Words()), Amiss(c, m.Words()); much != -1 || amiss != -1 {
		t.Errorf("too much is %d, amiss is %d", much, amiss)
	}
}

// Threads that leave something amiss, or find no end, are told of.
func TestTogether(t *testing.T) {
	c := Few()
	takes := func() mem.Machine { return pool.New(c, 3, 2, 0) }
	for _, f := range []struct {
		made func() mem.Machine
		want string
	}{
		{takes, "something amiss at node 3"},
		{func() mem.Machine { return stuck{} }, "no end of thread 0, alone"},
		{func() mem.Machine { return stored{w: 40, x: 1} }, "neither free nor live is ticket 0"},
		{func() mem.Machine { return stored{w: 31, x: -1} }, "too much of node 3"},
		{func() mem.Machine { return stored{w: 46, x: 1} }, ""},
	} {
		l := []*Thread{{Left: []func() mem.Machine{f.made}}, {}}
		if got := Together(c, plan.Fresh(c), l, []int{1, 0, 1}); got != f.want {
			t.Errorf("%q; want %q", got, f.want)
		}
	}
}

// stuck goes on for ever.
type stuck struct{}

func (stuck) Step(m *mem.Mem) bool { return false }
func (stuck) Ans() api.Ans         { return api.Ans{} }

// stored sets a word.
type stored struct{ w, x int }

func (s stored) Step(m *mem.Mem) bool {
	m.Store(s.w, s.x)
	return true
}
func (stored) Ans() api.Ans { return api.Ans{} }
