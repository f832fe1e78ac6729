package call

import (
	"math"
	"slices"
	"testing"

	"breadline/add"
	"breadline/admit"
	"breadline/api"
	"breadline/mem"
	"breadline/pack"
	"breadline/plan"
	"breadline/release"
	"breadline/sample"
	"breadline/shift"
	"breadline/tree"
	"breadline/usage"
)

// The states' numbers, as the chapters say them.
const (
	free   = 0
	live   = 2
	ending = 3
)

// v is one version of a word.
const v = 1 << 32

// What written runs are made of.
var load, plus, swapped, stored = sample.Load, sample.Plus, sample.Swapped, sample.Stored

// tickets are how many a handle's number has room for.
const tickets = 16

// parts are what a part of a call may be, and what it may not.
type parts struct{ right, wrong []int }

func (p parts) all() []int { return slices.Concat(p.right, p.wrong) }

// What the parts of calls may be, in the few's setting: nodes 0 (1 (2), 3), and three tickets.
var (
	noNodes = []int{-1, -2, 4, 5, 11, 12, 77, 1 << 32, 1<<32 + 3, math.MinInt, math.MinInt + 3, math.MaxInt}
	leaves  = parts{[]int{2, 3}, append([]int{0, 1}, noNodes...)}
	tenants = parts{[]int{0, 1, 2, 3}, noNodes}
	amounts = parts{[]int{1, 2, 1000, 1<<20 - 1, 1 << 20}, []int{0, -1, -1 << 20, 1<<20 + 1, 1 << 21, 1<<32 + 1, math.MinInt, math.MinInt + 1, math.MaxInt}}
	handles = parts{
		[]int{0, 1, 2, 16, 17, 34, 1<<35 + 1, sample.MaxVersion * tickets, sample.MaxVersion*tickets + 2},
		[]int{3, 15, 19, 35, 47, sample.MaxVersion*tickets + 3, 1 << 36, 1<<36 + 2, 1 << 62, math.MaxInt, -1, -14, -15, -16, math.MinInt, math.MinInt + 1},
	}
	anything = parts{slices.Concat(tenants.all(), amounts.all(), handles.all()), nil}
)

func checked(t *testing.T, c api.Conf, x api.Call, want api.Errno) {
	t.Helper()
	if got := Check(c, x); got != want {
		t.Errorf("%+v of %+v: %d; want %d", x, c, got, want)
	}
}

// P15.1, of O1: each kind by all that its Node and its N may be, and may not; what is wrong with both is told of the Node.
func TestChecked(t *testing.T) {
	c := sample.Few()
	for _, f := range []struct {
		kind      int
		nodes, ns parts
		wrong     api.Errno // with N
	}{
		{api.Admit, leaves, amounts, api.ErrArg},
		{api.Release, anything, handles, api.ErrTicket},
		{api.Raise, tenants, amounts, api.ErrArg},
		{api.Lower, tenants, amounts, api.ErrArg},
		{api.Usage, tenants, anything, api.OK},
		{api.Peek, tenants, anything, api.OK},
	} {
		for _, node := range f.nodes.wrong {
			for _, n := range f.ns.all() {
				checked(t, c, api.Call{Kind: f.kind, Node: node, N: n}, api.ErrNode)
			}
		}
		for _, node := range f.nodes.right {
			for _, n := range f.ns.right {
				checked(t, c, api.Call{Kind: f.kind, Node: node, N: n}, api.OK)
			}
			for _, n := range f.ns.wrong {
				checked(t, c, api.Call{Kind: f.kind, Node: node, N: n}, f.wrong)
			}
		}
	}
}

// P15.1, of O1: there are no other kinds, whatever else is wrong.
func TestCheckedOfNoKind(t *testing.T) {
	c := sample.Few()
	for _, kind := range []int{0, -1, -2, -6, 7, 8, 16, 1<<32 + 1, 1<<63 - 1, -1 << 63, -1<<63 + 1} {
		for _, node := range []int{2, 0, 4, -1} {
			for _, n := range []int{1, 0, 34, 35, -1, 1<<20 + 1} {
				checked(t, c, api.Call{Kind: kind, Node: node, N: n}, api.ErrArg)
			}
		}
	}
}

// P15.1, of O1: in settings of each size, up to the greatest.
func TestCheckedBySizes(t *testing.T) {
	for nodes := 1; nodes <= api.MaxNodes; nodes++ {
		c := sample.Chain(nodes, 1, 1)
		for node := -1; node <= api.MaxNodes; node++ {
			asLeaf, asTenant := api.ErrNode, api.ErrNode
			if node >= 0 && node < nodes {
				asTenant = api.OK
			}
			if node == nodes-1 {
				asLeaf = api.OK
			}
			checked(t, c, api.Call{Kind: api.Admit, Node: node, N: 1}, asLeaf)
			for _, kind := range []int{api.Raise, api.Lower, api.Usage, api.Peek} {
				checked(t, c, api.Call{Kind: kind, Node: node, N: 1}, asTenant)
			}
		}
	}
	for many := 1; many <= api.MaxTickets; many++ {
		c := sample.Chain(2, 1, many)
		for ticket := range tickets {
			want := api.OK
			if ticket >= many {
				want = api.ErrTicket
			}
			for _, version := range []int{0, 2, 1 << 31, sample.MaxVersion} {
				checked(t, c, api.Call{Kind: api.Release, Node: 1, N: version*tickets + ticket}, want)
			}
		}
	}
}

// wrongByHand is what the chapter says is wrong with a call.
func wrongByHand(c api.Conf, x api.Call) api.Errno {
	there := x.Node >= 0 && x.Node < len(c.Parents)
	isAmount := x.N >= 1 && x.N <= 1048576
	switch x.Kind {
	case 1:
		if !there || slices.Contains(c.Parents, x.Node) {
			return api.ErrNode
		}
		if !isAmount {
			return api.ErrArg
		}
	case 2:
		if x.N < 0 || x.N >= 1<<36 || x.N%16 >= c.Tickets {
			return api.ErrTicket
		}
	case 3, 4:
		if !there {
			return api.ErrNode
		}
		if !isAmount {
			return api.ErrArg
		}
	case 5, 6:
		if !there {
			return api.ErrNode
		}
	default:
		return api.ErrArg
	}
	return api.OK
}

// P15.1, of O1: of drawn calls, in settings of any form.
func TestCheckedAsTheChapterSays(t *testing.T) {
	pick := sample.Drawer(41)
	times := map[api.Errno]int{}
	for range 20000 {
		c := pick.Setting()
		x := pick.Call(c)
		switch pick(4) {
		case 0:
			x.Node = pick(len(c.Parents)+3) - 1
		case 1:
			x.N = pick.Version()*tickets + pick(tickets)
		}
		want := wrongByHand(c, x)
		checked(t, c, x, want)
		times[want]++
	}
	if len(times) != 4 || times[api.OK] < 6000 || times[api.ErrArg] < 1000 || times[api.ErrNode] < 1000 || times[api.ErrTicket] < 500 {
		t.Errorf("of 20000 there were %v", times)
	}
}

// laidWith is a fresh Mem of the few's setting, but for some words, each a word and what it is.
func laidWith(pairs ...int) *mem.Mem {
	m := plan.Fresh(sample.Few())
	for i := 0; i < len(pairs); i += 2 {
		m.Poke(pairs[i], pairs[i+1])
	}
	return m
}

// P15.1, of O2: a call of each kind, written out; nodes, numbers and threads are such that others would be seen.
func TestDone(t *testing.T) {
	for _, f := range []struct {
		name   string
		laid   []int
		thread int
		call   api.Call
		log    [][]api.Access
		want   api.Ans
	}{
		{"admit by thread 1", []int{37, 2, 7, 2}, 1, api.Call{Kind: api.Admit, Node: 3, N: 2}, [][]api.Access{
			{load(42, 0), swapped(42, 0, v+1)},
			{load(33, 0), load(31, 5), swapped(31, 5, 1), load(33, 0), swapped(33, 0, 2)},
			{load(3, 0), load(1, 20), swapped(1, 20, 16), load(3, 0), swapped(3, 0, 2)},
			{stored(43, 3<<21+2), stored(42, 2*v+live)},
			// The first draw of thread 1 is even, that of thread 0 is odd.
			{load(37, 2), load(38, 0), swapped(38, 0, v+2)},
			{load(7, 2), load(8, 0), swapped(8, 0, v+2)},
		}, api.Ans{N: 33}},
		{"admit by thread 0, refused", nil, 0, api.Call{Kind: api.Admit, Node: 3, N: 6}, [][]api.Access{
			{load(40, 0), swapped(40, 0, v+1)},
			{load(32, 0), load(31, 5)},
			{stored(40, 2*v+free)},
		}, api.Ans{Err: api.ErrOver, Node: 3}},
		{"release by thread 0", []int{42, 2*v + live, 43, 3<<21 + 1, 37, 2, 7, 2}, 0, api.Call{Kind: api.Release, Node: -5, N: 33}, [][]api.Access{
			{load(42, 2*v+live), swapped(42, 2*v+live, 3*v+ending), load(43, 3<<21+1)},
			{plus(31, 1, 6)}, {plus(1, 1, 21)},
			{load(37, 2), load(39, 0), swapped(39, 0, sample.Word(1, -1))},
			{load(7, 2), load(9, 0), swapped(9, 0, sample.Word(1, -1))},
			{stored(42, 4*v+free)},
		}, api.Ans{N: 1, Node: 3}},
		{"release by thread 1", []int{42, 2*v + live, 43, 3<<21 + 1, 37, 2, 7, 2}, 1, api.Call{Kind: api.Release, Node: 2, N: 33}, [][]api.Access{
			{load(42, 2*v+live), swapped(42, 2*v+live, 3*v+ending), load(43, 3<<21+1)},
			{plus(31, 1, 6)}, {plus(1, 1, 21)},
			{load(37, 2), load(38, 0), swapped(38, 0, sample.Word(1, -1))},
			{load(7, 2), load(8, 0), swapped(8, 0, sample.Word(1, -1))},
			{stored(42, 4*v+free)},
		}, api.Ans{N: 1, Node: 3}},
		{"release of what is not live", nil, 0, api.Call{Kind: api.Release, Node: 1, N: 34}, [][]api.Access{{load(44, 0)}}, api.Ans{Err: api.ErrTicket}},
		{"raise", nil, 1, api.Call{Kind: api.Raise, Node: 1, N: 3}, [][]api.Access{{load(10, 10), swapped(10, 10, 13), plus(11, 3, 13)}}, api.Ans{}},
		{"raise above all", []int{20, 1 << 40}, 0, api.Call{Kind: api.Raise, Node: 2, N: 1}, [][]api.Access{{load(20, 1<<40)}}, api.Ans{Err: api.ErrBig}},
		{"lower", nil, 0, api.Call{Kind: api.Lower, Node: 1, N: 3}, [][]api.Access{{load(11, 10), swapped(11, 10, 7), plus(10, -3, 7)}}, api.Ans{}},
		{"lower below what is available", nil, 1, api.Call{Kind: api.Lower, Node: 2, N: 9}, [][]api.Access{{load(21, 8)}}, api.Ans{Err: api.ErrOver, Node: 2}},
		{"usage", []int{14, 4, 15, 1, 16, 1, 18, v + 3}, 1, api.Call{Kind: api.Usage, Node: 1, N: -7}, [][]api.Access{
			{load(15, 1), load(16, 1), load(14, 4), load(18, v+3), load(19, 0), load(15, 1), load(18, v+3), load(19, 0)},
		}, api.Ans{N: 7, Exact: true}},
		{"usage while another thread is on its way", []int{34, 4, 35, 1, 39, v + 3}, 0, api.Call{Kind: api.Usage, Node: 3}, slices.Repeat([][]api.Access{
			{load(35, 1), load(36, 0), load(34, 4), load(38, 0), load(39, v+3), load(35, 1), load(38, 0), load(39, v+3)},
		}, 2), api.Ans{N: 4}},
		{"peek", []int{14, 4, 18, v + 3}, 0, api.Call{Kind: api.Peek, Node: 1, N: 1 << 21}, [][]api.Access{{load(14, 4)}}, api.Ans{N: 4}},
	} {
		m := laidWith(f.laid...)
		x := New(sample.Few(), f.thread, f.call)
		steps, last := mem.Play(m, x, nil, 300)
		want := slices.Concat(f.log...)
		if steps != len(want) || !last || x.Ans() != f.want {
			t.Errorf("%s: %d steps, %t, %+v; want %d, %+v", f.name, steps, last, x.Ans(), len(want), f.want)
		}
		if got := m.Log(); !slices.Equal(got, want) {
			t.Errorf("%s: %v; want %v", f.name, got, want)
		}
	}
}

// ofLayers is the machine that the chapter names for a call.
func ofLayers(c api.Conf, thread int, x api.Call) mem.Machine {
	switch x.Kind {
	case 1:
		return admit.New(c, x.Node, x.N, thread)
	case 2:
		return release.New(c, x.N, thread)
	case 3:
		return shift.Raise(c, x.Node, x.N)
	case 4:
		return shift.Lower(c, x.Node, x.N)
	case 5:
		return usage.Count(c, x.Node)
	}
	return usage.Peek(c, x.Node)
}

// disturbed are words of which some are as others may have left them; each ticket has a body, and most are live.
func disturbed(pick sample.Pick, c api.Conf) *mem.Mem {
	m := plan.Fresh(c)
	for range pick.OneOf(0, 5, 30) {
		m.Poke(pick.Disturb(c, -1))
	}
	for k := range c.Tickets {
		if pick(3) > 0 {
			m.Poke(plan.Ticket(c, k), sample.Word(pick.Version(), live))
		}
		m.Poke(plan.Ticket(c, k)+1, pick.Leaf(c)<<21+pick.Amount())
	}
	return m
}

// P15.1, of O2: in settings of any form, whatever others do, each step is that of the layer's own machine.
func TestAsTheLayers(t *testing.T) {
	pick := sample.Drawer(42)
	type way struct {
		kind int
		err  api.Errno
	}
	times := map[way]int{}
	for range 12000 {
		c := pick.Setting()
		c.Retry = 1 + pick(api.MaxRetry)
		first := disturbed(pick, c)
		x, thread := pick.Call(c, sample.Handles(c, first.Words())...), pick(1001)
		if Check(c, x) != api.OK {
			continue
		}
		second := sample.LaidOut(first.Words())
		var pokes []api.Poke
		for range pick.OneOf(0, 0, 3, 12) {
			w, is := pick.Disturb(c, -1)
			pokes = append(pokes, sample.Poke(pick(30), w, is))
		}
		got, want := New(c, thread, x), ofLayers(c, thread, x)
		steps, last := mem.Play(first, got, pokes, 999)
		wantSteps, wantLast := mem.Play(second, want, pokes, 999)
		if steps != wantSteps || last != wantLast || got.Ans() != want.Ans() || !slices.Equal(first.Log(), second.Log()) {
			t.Fatalf("%+v, %+v by thread %d: %d steps, %+v, by %v; want %d, %+v, by %v", c, x, thread, steps, got.Ans(), first.Log(), wantSteps, want.Ans(), second.Log())
		}
		times[way{x.Kind, got.Ans().Err}]++
	}
	for _, w := range []way{{1, api.OK}, {1, api.ErrFull}, {1, api.ErrOver}, {2, api.OK}, {2, api.ErrTicket}, {3, api.OK}, {3, api.ErrBig}, {4, api.OK}, {4, api.ErrOver}, {5, api.OK}, {6, api.OK}} {
		if times[w] < 50 {
			t.Errorf("of 12000 there were %v", times)
		}
	}
}

// said is what the words say that a call answers, if nobody else steps.
func said(c api.Conf, w []int, thread int, x api.Call) api.Ans {
	switch x.Kind {
	case api.Admit:
		return saidOfAdmission(c, w, thread, x)
	case api.Release:
		state, body := w[plan.Ticket(c, x.N%tickets)], w[plan.Ticket(c, x.N%tickets)+1]
		if state != sample.Word(x.N/tickets, live) {
			return api.Ans{Err: api.ErrTicket}
		}
		return api.Ans{N: body & (1<<21 - 1), Node: body >> 21}
	case api.Raise:
		if w[plan.Limit(c, x.Node)]+x.N > api.MaxLimit {
			return api.Ans{Err: api.ErrBig}
		}
	case api.Lower:
		if w[plan.Avail(c, x.Node)] < x.N {
			return api.Ans{Err: api.ErrOver, Node: x.Node}
		}
	case api.Usage:
		if w[sample.Begun(c, x.Node)] == w[sample.Done(c, x.Node)] {
			return api.Ans{N: add.Sum(sample.LaidOut(w), plan.Counter(c, x.Node), c.Stripes), Exact: true}
		}
		return api.Ans{N: w[plan.Counter(c, x.Node)]}
	case api.Peek:
		return api.Ans{N: w[plan.Counter(c, x.Node)]}
	}
	return api.Ans{}
}

func saidOfAdmission(c api.Conf, w []int, thread int, x api.Call) api.Ans {
	for i := range c.Tickets {
		k := (thread + i) % c.Tickets
		state := w[plan.Ticket(c, k)]
		if pack.Value(state) != free {
			continue
		}
		for _, node := range tree.Path(c, x.Node) {
			if w[plan.Lease(c, node, thread%c.Stripes)] < x.N && w[plan.Avail(c, node)] < x.N {
				return api.Ans{Err: api.ErrOver, Node: node}
			}
		}
		return api.Ans{N: (pack.Version(state)+2)*tickets + k}
	}
	return api.Ans{Err: api.ErrFull}
}

// askable is a call with which nothing is wrong; what it releases is mostly live by those words.
func askable(pick sample.Pick, c api.Conf, w []int) api.Call {
	x := pick.Call(c, sample.Handles(c, w)...)
	for Check(c, x) != api.OK {
		x = pick.Call(c, sample.Handles(c, w)...)
	}
	return x
}

// smaller has limits that are soon used up, but for some near the greatest one.
func smaller(pick sample.Pick) api.Conf {
	c := pick.Setting()
	for node := range c.Limits {
		c.Limits[node] = pick.OneOf(20+pick(100), 20+pick(100), api.MaxLimit-pick(3))
	}
	return c
}

// P15.2, where all is quiet: one call behind the other, by drawn threads; of Usage what live tickets have.
func TestAnswersWhenQuiet(t *testing.T) {
	pick := sample.Drawer(43)
	times, used, glanced := map[api.Errno]int{}, 0, 0
	for range 400 {
		c := smaller(pick)
		m := plan.Fresh(c)
		for range 40 {
			w := m.Words()
			x, thread := askable(pick, c, w), pick(1001)
			y := New(c, thread, x)
			if _, last := mem.Play(m, y, nil, 4000); !last || y.Ans() != said(c, w, thread, x) {
				t.Fatalf("%+v, %+v by thread %d: %t, %+v; want %+v, behind %v", c, x, thread, last, y.Ans(), said(c, w, thread, x), m.Log())
			}
			if node := sample.Amiss(c, m.Words()); node >= 0 || len(sample.Tickets(c, m.Words(), 1, ending)) > 0 {
				t.Fatalf("%+v, %+v by thread %d: something amiss at node %d, behind %v", c, x, thread, node, m.Log())
			}
			times[y.Ans().Err]++
			switch x.Kind {
			case api.Usage:
				if want := (api.Ans{N: sample.Used(c, w)[x.Node], Exact: true}); y.Ans() != want {
					t.Fatalf("%+v, %+v: %+v; want %+v, behind %v", c, x, y.Ans(), want, m.Log())
				}
				used += min(y.Ans().N, 1)
			case api.Peek:
				if y.Ans().N != sample.Used(c, w)[x.Node] {
					glanced++
				}
			}
		}
	}
	if times[api.OK] < 8000 || times[api.ErrFull] < 200 || times[api.ErrOver] < 700 || times[api.ErrTicket] < 200 || times[api.ErrBig] < 300 || used < 500 || glanced < 200 {
		t.Errorf("of 16000 there were %v, %d usages above 0, and %d glances that are others", times, used, glanced)
	}
}

// P15.2, where it is not quiet: some threads are stopped wherever, for ever, and each call that is made alone behind that answers what the words say.
func TestAnswersThoughOthersAreStopped(t *testing.T) {
	pick := sample.Drawer(44)
	times, inexact := map[api.Errno]int{}, 0
	for range 1500 {
		c := smaller(pick)
		m := plan.Fresh(c)
		for thread := range api.MaxThreads {
			mem.Play(m, New(c, thread, askable(pick, c, m.Words())), nil, pick.OneOf(4000, 1+pick(40)))
		}
		for range 8 {
			w := m.Words()
			x, thread := askable(pick, c, w), pick(1001)
			y := New(c, thread, x)
			if _, last := mem.Play(m, y, nil, 4000); !last || y.Ans() != said(c, w, thread, x) {
				t.Fatalf("%+v, %+v by thread %d: %t, %+v; want %+v, behind %v", c, x, thread, last, y.Ans(), said(c, w, thread, x), m.Log())
			}
			if node := sample.TooMuch(c, m.Words()); node >= 0 {
				t.Fatalf("%+v, %+v by thread %d: too much of node %d, behind %v", c, x, thread, node, m.Log())
			}
			times[y.Ans().Err]++
			if x.Kind == api.Usage && !y.Ans().Exact {
				inexact++
			}
		}
	}
	if times[api.OK] < 6000 || times[api.ErrFull] < 100 || times[api.ErrOver] < 500 || times[api.ErrTicket] < 50 || times[api.ErrBig] < 100 || inexact < 20 {
		t.Errorf("of 12000 there were %v, and %d usages that are not exact", times, inexact)
	}
}

// The theorem behind it (T2): many threads' calls, by drawn turns, of whatever they ask.
func TestManyTogether(t *testing.T) {
	pick := sample.Drawer(45)
	times := map[api.Errno]int{}
	for range 300 {
		c := smaller(pick)
		m := plan.Fresh(c)
		var l []*sample.Thread
		for thread := range 2 + pick(api.MaxThreads-1) {
			x := &sample.Thread{}
			for range 1 + pick(8) {
				x.Left = append(x.Left, func() mem.Machine {
					return New(c, thread, pick.Call(c, sample.Handles(c, m.Words())...))
				})
			}
			l = append(l, x)
		}
		if wrong := sample.Together(c, m, l, pick.Turns(len(l))); wrong != "" {
			t.Fatalf("%+v: %s, behind %v", c, wrong, m.Log())
		}
		sample.Tally(times, l)
	}
	if times[api.OK] < 2500 || len(times) != 7 {
		t.Errorf("there were %v", times)
	}
}

// P3: what is handed in stays as it is, its spare room too; asked again, all is told again.
func TestHandedInStays(t *testing.T) {
	pick := sample.Drawer(46)
	for range 300 {
		c := pick.Setting()
		parents, limits := sample.Spacious(c.Parents), sample.Spacious(c.Limits)
		wasParents, wasLimits := slices.Clone(parents[:cap(parents)]), slices.Clone(limits[:cap(limits)])
		c.Parents, c.Limits = parents, limits
		var calls []api.Call
		for range 12 {
			calls = append(calls, pick.Call(c, 32, 16))
		}
		told := func() ([]api.Access, []api.Ans) {
			m := plan.Fresh(c)
			var l []api.Ans
			for thread, x := range calls {
				l = append(l, api.Ans{Err: Check(c, x)})
				y := New(c, thread, x)
				mem.Play(m, y, nil, 4000)
				l = append(l, y.Ans())
			}
			return m.Log(), l
		}
		log, answers := told()
		againLog, again := told()
		if !slices.Equal(log, againLog) || !slices.Equal(answers, again) {
			t.Fatalf("%+v, %v: %v, by %v; then %v, by %v", c, calls, answers, log, again, againLog)
		}
		if !slices.Equal(parents[:cap(parents)], wasParents) || !slices.Equal(limits[:cap(limits)], wasLimits) {
			t.Fatalf("%v, %v; was %v, %v", parents[:cap(parents)], limits[:cap(limits)], wasParents, wasLimits)
		}
	}
}

// P3: machines of one call stand apart.
func TestMachinesStandApart(t *testing.T) {
	c := sample.Few()
	for _, call := range []api.Call{{Kind: api.Admit, Node: 2, N: 3}, {Kind: api.Release, N: 33}, {Kind: api.Raise, Node: 1, N: 2}, {Kind: api.Lower, Node: 1, N: 2}, {Kind: api.Usage, Node: 3}, {Kind: api.Peek, Node: 3}} {
		laid := func() *mem.Mem { return laidWith(42, 2*v+live, 43, 3<<21+2, 34, 9, 38, v+1) }
		first, second := laid(), laid()
		x, y := New(c, 1, call), New(c, 1, call)
		x.Step(first)
		if y.Ans() != (api.Ans{}) {
			t.Errorf("%+v: %+v, %+v", call, x.Ans(), y.Ans())
		}
		mem.Play(first, x, nil, 99)
		if _, last := mem.Play(second, y, nil, 99); !last || y.Ans() != x.Ans() || !slices.Equal(first.Log(), second.Log()) {
			t.Errorf("%+v: %+v, by %v; %+v, by %v", call, x.Ans(), first.Log(), y.Ans(), second.Log())
		}
	}
}

// Wrong inputs: nothing is said of the machine of a call with which something is wrong, but it alters nothing, and tells what that is.
func TestWrongCalls(t *testing.T) {
	c := sample.Few()
	for _, call := range []api.Call{
		{}, {Kind: 7, Node: 2, N: 1}, {Kind: -1, Node: 2, N: 1},
		{Kind: api.Admit, Node: 1, N: 1}, {Kind: api.Admit, Node: 4, N: 1}, {Kind: api.Admit, Node: 2}, {Kind: api.Admit, Node: 2, N: 1<<20 + 1},
		{Kind: api.Release, N: -1}, {Kind: api.Release, N: 35},
		{Kind: api.Raise, Node: 4, N: 1}, {Kind: api.Raise, Node: -1, N: 1}, {Kind: api.Raise, N: -1}, {Kind: api.Lower, Node: 4, N: 1}, {Kind: api.Lower, N: 0},
		{Kind: api.Usage, Node: 4}, {Kind: api.Peek, Node: -1},
	} {
		m := plan.Fresh(c)
		x := New(c, 0, call)
		for range 3 {
			if !x.Step(m) || x.Ans() != (api.Ans{Err: Check(c, call)}) || x.Ans().Err == api.OK || len(m.Log()) != 0 {
				t.Errorf("%+v: %+v, by %v", call, x.Ans(), m.Log())
			}
		}
	}
}

// P1: nothing is said of other settings, threads, calls and words, but all calls end, and none panics.
func TestWrongInputsEnd(t *testing.T) {
	right := sample.Few()
	for kind := -1; kind <= 8; kind++ {
		for _, a := range sample.Numbers() {
			for _, b := range sample.Numbers() {
				for _, c := range []api.Conf{
					right, {}, {Tickets: a, Stripes: b, Retry: a, Parents: []int{-1, b}},
					{Tickets: 3, Stripes: a, Retry: b, Gate: a, Lease: b, Parents: []int{a, b, a}, Limits: []int{1}},
				} {
					for _, m := range []*mem.Mem{nil, mem.New(0), mem.New(41)} {
						x := New(c, a, api.Call{Kind: kind, Node: b, N: a})
						mem.Play(m, x, nil, 60)
						x.Ans()
						x = New(c, b, api.Call{Kind: kind, Node: 1, N: a})
						mem.Play(m, x, nil, 60)
						x.Ans()
					}
				}
			}
		}
	}
}
