package release

import (
	"slices"
	"testing"

	"breadline/add"
	"breadline/admit"
	"breadline/api"
	"breadline/mem"
	"breadline/plan"
	"breadline/sample"
	"breadline/shift"
	"breadline/state"
	"breadline/tree"
)

var _ mem.Machine = (*Machine)(nil)

// The states' numbers, as the chapters say them.
const (
	free   = 0
	busy   = 1
	live   = 2
	ending = 3
)

// v is one version of a word.
const v = 1 << 32

// What written runs are made of.
var (
	load, plus, swapped, failed, stored = sample.Load, sample.Plus, sample.Swapped, sample.Failed, sample.Stored
	poke                                = sample.Poke
)

func back(n, node int) api.Ans { return api.Ans{N: n, Node: node} }
func none() api.Ans            { return api.Ans{Err: api.ErrTicket} }

// written is one whole run in the few's setting, as the chapter's words say it.
type written struct {
	name           string
	laid           []api.Poke // ahead of all
	handle, thread int
	pokes          []api.Poke
	log            [][]api.Access // of each machine, and of what is between them, a row
	want           api.Ans
}

func (f written) check(t *testing.T) {
	t.Helper()
	m := plan.Fresh(sample.Few())
	for _, p := range f.laid {
		m.Poke(p.W, p.X)
	}
	x := New(sample.Few(), f.handle, f.thread)
	steps, last := mem.Play(m, x, f.pokes, 300)
	want := slices.Concat(f.log...)
	if steps != len(want) || !last || x.Ans() != f.want {
		t.Errorf("%s: %d steps, %t, %v; want %d, %v", f.name, steps, last, x.Ans(), len(want), f.want)
	}
	if got := m.Log(); !slices.Equal(got, want) {
		t.Errorf("%s: %v; want %v", f.name, got, want)
	}
}

// ticket is what a live one's words are, from word w on.
func ticket(w, state, node, n int) []api.Poke {
	return []api.Poke{{W: w, X: state}, {W: w + 1, X: node<<21 + n}}
}

// P13.1, where all goes back.
func TestReleased(t *testing.T) {
	for _, f := range []written{
		{"the first handle", append(ticket(40, 2*v+live, 3, 2), api.Poke{W: 31, X: 1}, api.Poke{W: 1, X: 16}, api.Poke{W: 38, X: v + 2}, api.Poke{W: 8, X: v + 2}), 32, 0, nil, [][]api.Access{
			{load(40, 2*v+live), swapped(40, 2*v+live, 3*v+ending), load(41, 3<<21+2)},
			{plus(31, 2, 3)}, {plus(1, 2, 18)},
			{load(37, 1), load(38, v+2), swapped(38, v+2, 2*v)},
			{load(7, 1), load(8, v+2), swapped(8, v+2, 2*v)},
			{stored(40, 4*v+free)},
		}, back(2, 3)},
		{"a path of three, at the gate", append(ticket(42, 6*v+live, 2, 4), api.Poke{W: 21, X: 4}, api.Poke{W: 11, X: 5}, api.Poke{W: 1, X: 6}), 6*16 + 1, 0, nil, [][]api.Access{
			{load(42, 6*v+live), swapped(42, 6*v+live, 7*v+ending), load(43, 2<<21+4)},
			{plus(21, 4, 8)}, {plus(11, 4, 9)}, {plus(1, 4, 10)},
			{load(27, 1), load(28, 0), plus(25, 1, 1), swapped(28, 0, v), plus(24, -4, -4), plus(26, 1, 1)},
			{load(17, 1), load(18, 0), plus(15, 1, 1), swapped(18, 0, v), plus(14, -4, -4), plus(16, 1, 1)},
			{load(7, 1), load(8, 0), plus(5, 1, 1), swapped(8, 0, v), plus(4, -4, -4), plus(6, 1, 1)},
			{stored(42, 8*v+free)},
		}, back(4, 2)},
		{"a stripe below 0, within the gate by one", ticket(44, 2*v+live, 3, 3), 2*16 + 2, 0, nil, [][]api.Access{
			{load(44, 2*v+live), swapped(44, 2*v+live, 3*v+ending), load(45, 3<<21+3)},
			{plus(31, 3, 8)}, {plus(1, 3, 23)},
			{load(37, 1), load(38, 0), swapped(38, 0, sample.Word(1, -3))},
			{load(7, 1), load(8, 0), swapped(8, 0, sample.Word(1, -3))},
			{stored(44, 4*v+free)},
		}, back(3, 3)},
		{"what goes back is no lease's, and stripes are drawn by thread 0", append(ticket(40, 2*v+live, 3, 1), api.Poke{W: 32, X: 2}, api.Poke{W: 37, X: 2}, api.Poke{W: 7, X: 2}), 32, 0, nil, [][]api.Access{
			{load(40, 2*v+live), swapped(40, 2*v+live, 3*v+ending), load(41, 3<<21+1)},
			{plus(31, 1, 6)}, {plus(1, 1, 21)},
			// The first draw of thread 0 is odd, that of thread 1 is even.
			{load(37, 2), load(39, 0), swapped(39, 0, sample.Word(1, -1))},
			{load(7, 2), load(9, 0), swapped(9, 0, sample.Word(1, -1))},
			{stored(40, 4*v+free)},
		}, back(1, 3)},
		{"stripes are drawn by thread 1", append(ticket(40, 2*v+live, 3, 1), api.Poke{W: 37, X: 2}, api.Poke{W: 7, X: 2}), 32, 1, nil, [][]api.Access{
			{load(40, 2*v+live), swapped(40, 2*v+live, 3*v+ending), load(41, 3<<21+1)},
			{plus(31, 1, 6)}, {plus(1, 1, 21)},
			{load(37, 2), load(38, 0), swapped(38, 0, sample.Word(1, -1))},
			{load(7, 2), load(8, 0), swapped(8, 0, sample.Word(1, -1))},
			{stored(40, 4*v+free)},
		}, back(1, 3)},
		{"the last version, the greatest amount", ticket(44, sample.Word(sample.MaxVersion, live), 3, api.MaxAmount), sample.MaxVersion*16 + 2, 0, nil, [][]api.Access{
			{load(44, sample.Word(sample.MaxVersion, live)), swapped(44, sample.Word(sample.MaxVersion, live), ending), load(45, 3<<21+1<<20)},
			{plus(31, 1<<20, 1<<20+5)}, {plus(1, 1<<20, 1<<20+20)},
			{load(37, 1), load(38, 0), plus(35, 1, 1), swapped(38, 0, v), plus(34, -1<<20, -1<<20), plus(36, 1, 1)},
			{load(7, 1), load(8, 0), plus(5, 1, 1), swapped(8, 0, v), plus(4, -1<<20, -1<<20), plus(6, 1, 1)},
			{stored(44, v+free)},
		}, back(api.MaxAmount, 3)},
		{"the version goes round behind the ending", ticket(40, sample.Word(sample.MaxVersion-1, live), 3, 1), (sample.MaxVersion - 1) * 16, 0, nil, [][]api.Access{
			{load(40, sample.Word(sample.MaxVersion-1, live)), swapped(40, sample.Word(sample.MaxVersion-1, live), sample.Word(sample.MaxVersion, ending)), load(41, 3<<21+1)},
			{plus(31, 1, 6)}, {plus(1, 1, 21)},
			{load(37, 1), load(38, 0), swapped(38, 0, sample.Word(1, -1))},
			{load(7, 1), load(8, 0), swapped(8, 0, sample.Word(1, -1))},
			{stored(40, free)},
		}, back(1, 3)},
		{"version 0", ticket(40, live, 3, 1), 0, 0, nil, [][]api.Access{
			{load(40, live), swapped(40, live, v+ending), load(41, 3<<21+1)},
			{plus(31, 1, 6)}, {plus(1, 1, 21)},
			{load(37, 1), load(38, 0), swapped(38, 0, sample.Word(1, -1))},
			{load(7, 1), load(8, 0), swapped(8, 0, sample.Word(1, -1))},
			{stored(40, 2*v+free)},
		}, back(1, 3)},
	} {
		f.check(t)
	}
}

// P13.1, where nothing is released, of the chapter's example among them.
func TestRefused(t *testing.T) {
	for _, f := range []struct {
		name   string
		handle int
		was    int // the state word of ticket 0
	}{
		{"the example", 0, 0},
		{"of a free ticket, of its version", 4 * 16, 4*v + free},
		{"of a busy one", 5 * 16, 5*v + busy},
		{"of one that another releases", 3 * 16, 3*v + ending},
		{"the version that it had ahead of its last release", 2 * 16, 6*v + live},
		{"one version too early", 5 * 16, 6*v + live},
		{"one version too late", 7 * 16, 6*v + live},
		{"a version that is like it in its lower bits", 2*16 + 1<<31*16, 2*v + live},
		{"a version that is the last one", sample.MaxVersion * 16, live},
		{"a word that is no state, but like one in its lower bits", 2 * 16, 2*v + 4 + live},
		{"a word of a value below 0", 2 * 16, sample.Word(2, -2)},
	} {
		written{f.name, ticket(40, f.was, 3, 2), f.handle, 0, nil, [][]api.Access{{load(40, f.was)}}, none()}.check(t)
	}
	// Of other tickets the live one is of no use.
	written{"another ticket", ticket(40, 2*v+live, 3, 2), 2*16 + 1, 0, nil, [][]api.Access{{load(42, 0)}}, none()}.check(t)
}

// P13.1, among others.
func TestAmongOthers(t *testing.T) {
	held := ticket(40, 2*v+live, 3, 1)
	for _, f := range []written{
		{"others release it first", held, 32, 0, []api.Poke{poke(1, 40, 3*v+ending)}, [][]api.Access{
			{load(40, 2*v+live), failed(40, 2*v+live, 3*v+ending)},
		}, none()},
		{"others released it, and it is live again", held, 32, 0, []api.Poke{poke(1, 40, 6*v+live)}, [][]api.Access{
			{load(40, 2*v+live), failed(40, 2*v+live, 3*v+ending)},
		}, none()},
		{"it is live too late", nil, 32, 0, []api.Poke{poke(1, 40, 2*v+live)}, [][]api.Access{
			{load(40, 0)},
		}, none()},
		{"the body is that which is found last", held, 32, 0, []api.Poke{poke(2, 41, 2<<21+3)}, [][]api.Access{
			{load(40, 2*v+live), swapped(40, 2*v+live, 3*v+ending), load(41, 2<<21+3)},
			{plus(21, 3, 11)}, {plus(11, 3, 13)}, {plus(1, 3, 23)},
			{load(27, 1), load(28, 0), swapped(28, 0, sample.Word(1, -3))},
			{load(17, 1), load(18, 0), swapped(18, 0, sample.Word(1, -3))},
			{load(7, 1), load(8, 0), swapped(8, 0, sample.Word(1, -3))},
			{stored(40, 4*v+free)},
		}, back(3, 2)},
		{"what goes back goes on top of what others did", held, 32, 0, []api.Poke{poke(3, 31, 0), poke(4, 1, 7), poke(5, 31, 2)}, [][]api.Access{
			{load(40, 2*v+live), swapped(40, 2*v+live, 3*v+ending), load(41, 3<<21+1)},
			{plus(31, 1, 1)}, {plus(1, 1, 8)},
			{load(37, 1), load(38, 0), swapped(38, 0, sample.Word(1, -1))},
			{load(7, 1), load(8, 0), swapped(8, 0, sample.Word(1, -1))},
			{stored(40, 4*v+free)},
		}, back(1, 3)},
		{"others count, too", held, 32, 0, []api.Poke{poke(7, 38, v+1), poke(11, 7, 2)}, [][]api.Access{
			{load(40, 2*v+live), swapped(40, 2*v+live, 3*v+ending), load(41, 3<<21+1)},
			{plus(31, 1, 6)}, {plus(1, 1, 21)},
			{load(37, 1), load(38, 0), failed(38, 0, sample.Word(1, -1)), swapped(37, 1, 2)},
			// The first draw of thread 0, and the one behind it, are odd; each counter begins with the first one.
			{load(37, 2), load(39, 0), swapped(39, 0, sample.Word(1, -1))},
			{load(7, 2), load(9, 0), swapped(9, 0, sample.Word(1, -1))},
			{stored(40, 4*v+free)},
		}, back(1, 3)},
	} {
		f.check(t)
	}
}

// byHand does as the chapter's words say, one behind the other, with what others do ahead of each access.
type byHand struct {
	m     *mem.Mem
	pokes []api.Poke
	steps int
}

func (b *byHand) words() *mem.Mem {
	for _, p := range b.pokes {
		if p.At == b.steps {
			b.m.Poke(p.W, p.X)
		}
	}
	b.steps++
	return b.m
}

func (b *byHand) release(c api.Conf, handle, thread int) api.Ans {
	k, version := handle%16, handle/16
	w := plan.Ticket(c, k)
	was := b.words().Load(w)
	if was != sample.Word(version, live) {
		return none()
	}
	if !b.words().Cas(w, was, after(version, 1, ending)) {
		return none()
	}
	body := b.words().Load(w + 1)
	node, n := body>>21, body&(1<<21-1)
	for _, node := range tree.Path(c, node) {
		b.words().Add(plan.Avail(c, node), n)
	}
	for _, node := range tree.Path(c, node) {
		x := add.New(plan.Counter(c, node), c.Stripes, c.Gate, -n, thread)
		for !x.Step(b.words()) {
		}
	}
	b.words().Store(w, after(version, 2, free))
	return back(n, node)
}

// after is the word so many versions behind one.
func after(version, by, state int) int {
	return sample.Word((version+by)&sample.MaxVersion, state)
}

// asked is a machine of a drawn ticket, in drawn words, and what others do meanwhile.
type asked struct {
	c              api.Conf
	handle, thread int
	node, n        int
	m              *mem.Mem
	pokes          []api.Poke
}

// ask has the ticket mostly live, and of the version that the handle names; behind the second step nobody alters it, if it was had.
func ask(pick sample.Pick) asked {
	c := pick.Setting()
	a := asked{c: c, thread: pick(1001), node: pick.Leaf(c), n: pick.Amount(), m: plan.Fresh(c)}
	for range pick.OneOf(0, 9, 200) {
		a.m.Poke(pick.Disturb(c, -1))
	}
	k, version := pick(c.Tickets), pick.Version()
	a.handle = version*16 + k
	w := plan.Ticket(c, k)
	if pick(6) > 0 {
		a.m.Poke(w, sample.Word(version, live))
	}
	a.m.Poke(w+1, a.node<<21+a.n)
	if pick(8) == 0 {
		a.pokes = append(a.pokes, poke(pick(2), w, sample.Word(pick.OneOf(version, pick.Version()), pick.State())))
	}
	often := pick.OneOf(1, 2, 5, 1000)
	for at := range 300 {
		if pick(often) == 0 {
			word, x := pick.Disturb(c, k)
			a.pokes = append(a.pokes, poke(at, word, x))
		}
	}
	return a
}

// P13.1: whatever others do, all accesses, and the answer, are those of the chapter's words.
func TestAsTheChapterSays(t *testing.T) {
	pick := sample.Drawer(21)
	times := map[api.Errno]int{}
	for range 6000 {
		a := ask(pick)
		b := byHand{m: sample.LaidOut(a.m.Words()), pokes: a.pokes}
		want := b.release(a.c, a.handle, a.thread)
		x := New(a.c, a.handle, a.thread)
		steps, last := mem.Play(a.m, x, a.pokes, 4000)
		if steps != b.steps || !last || x.Ans() != want {
			t.Fatalf("%+v: %d steps, %t, %v; want %d, %v", a, steps, last, x.Ans(), b.steps, want)
		}
		if !slices.Equal(a.m.Log(), b.m.Log()) || !slices.Equal(a.m.Words(), b.m.Words()) {
			t.Fatalf("%+v: %v; want %v", a, a.m.Log(), b.m.Log())
		}
		times[want.Err]++
	}
	if len(times) != 2 || times[api.OK] < 3000 || times[api.ErrTicket] < 600 {
		t.Errorf("of 6000 there were %v", times)
	}
}

// altered are those of the accesses that altered a word.
func altered(log []api.Access) []api.Access {
	return slices.DeleteFunc(slices.Clone(log), func(a api.Access) bool {
		return a.Kind == api.Load || a.Kind == api.Cas && !a.Ok
	})
}

// P13.3: what its own accesses did, whatever others do.
func TestBackOrNothing(t *testing.T) {
	pick := sample.Drawer(22)
	late := 0 // refused behind the first access
	for range 5000 {
		a := ask(pick)
		x := New(a.c, a.handle, a.thread)
		if _, last := mem.Play(a.m, x, a.pokes, 4000); !last {
			t.Fatalf("%+v: no end, by %v", a, a.m.Log())
		}
		log := a.m.Log()
		if x.Ans() == none() {
			if l := altered(log); len(l) > 0 {
				t.Fatalf("%+v: refused, behind %v", a, l)
			}
			if len(log) > 1 {
				late++
			}
			continue
		}
		if x.Ans() != back(a.n, a.node) {
			t.Fatalf("%+v: %v, by %v", a, x.Ans(), log)
		}
		for node := range a.c.Parents {
			want := 0
			if tree.Under(a.c, a.node, node) {
				want = a.n
			}
			if left, counted := sample.Moved(a.c, log, node); left != want || counted != -want {
				t.Fatalf("%+v, node %d: %d are back, %d are counted, by %v", a, node, left, counted, log)
			}
		}
		a.checkTicket(t, altered(log))
	}
	if late < 100 {
		t.Errorf("of 5000 only %d were refused late", late)
	}
}

// checkTicket checks that its ticket was had ahead of all else, and is free behind it; no other ticket is altered, and no body.
func (a asked) checkTicket(t *testing.T, l []api.Access) {
	t.Helper()
	k, version := a.handle%16, a.handle/16
	w := plan.Ticket(a.c, k)
	first := swapped(w, sample.Word(version, live), after(version, 1, ending))
	last := stored(w, after(version, 2, free))
	if l[0] != first || l[len(l)-1] != last {
		t.Fatalf("%+v: from %v to %v; want %v, %v", a, l[0], l[len(l)-1], first, last)
	}
	for _, x := range l[1 : len(l)-1] {
		if x.W >= plan.Ticket(a.c, 0) {
			t.Fatalf("%+v: %v", a, x)
		}
	}
}

// played is the answer of a machine that steps to its end.
func played(t *testing.T, m *mem.Mem, x mem.Machine) api.Ans {
	t.Helper()
	if steps, last := mem.Play(m, x, nil, 4000); !last {
		t.Fatalf("no end behind %d steps, by %v", steps, m.Log())
	}
	return x.Ans()
}

// P13.3, alone: all that an admission took is back, at each leaf of drawn settings, and whichever thread gives it back; no other words are altered.
func TestAloneAllIsBack(t *testing.T) {
	pick := sample.Drawer(23)
	done := 0
	for range 3000 {
		c := pick.Setting()
		m := plan.Fresh(c)
		for range pick(4) {
			mem.Play(m, admit.New(c, pick.Leaf(c), pick.Amount(), pick(1001)), nil, 4000)
		}
		before := m.Words()
		node, n := pick.Leaf(c), pick.Amount()
		ans := played(t, m, admit.New(c, node, n, pick(1001)))
		if ans.Err != api.OK {
			continue
		}
		done++
		if ans := played(t, m, New(c, ans.N, pick(1001))); ans != back(n, node) {
			t.Fatalf("%+v: %v of %d, at node %d", c, ans, n, node)
		}
		after := m.Words()
		for node := range c.Parents {
			if was, is := sample.Look(c, before, node), sample.Look(c, after, node); was.Limit != is.Limit || was.Left != is.Left || was.Sum != is.Sum || is.OnTheWay != 0 {
				t.Fatalf("%+v: node %d had %+v, has %+v", c, node, was, is)
			}
		}
		if !slices.Equal(sample.Handles(c, before), sample.Handles(c, after)) || sample.Amiss(c, after) >= 0 {
			t.Fatalf("%+v: %v; then %v", c, before, after)
		}
	}
	if done < 1500 {
		t.Errorf("of 3000 only %d were admitted", done)
	}
}

// P13.1: the greatest numbers, of which something is said.
func TestGreatest(t *testing.T) {
	c := sample.Chain(api.MaxNodes, api.MaxStripes, api.MaxTickets)
	c.Gate, c.Lease = api.MaxGate, api.MaxAmount
	for node := range c.Limits {
		c.Limits[node] = api.MaxLimit
	}
	m := plan.Fresh(c)
	var handles []int
	for range api.MaxTickets {
		handles = append(handles, played(t, m, admit.New(c, api.MaxNodes-1, api.MaxAmount, 1000)).N)
	}
	for i, handle := range handles {
		if ans := played(t, m, New(c, handle, 1000)); ans != back(api.MaxAmount, api.MaxNodes-1) {
			t.Fatalf("the one %d: %v", i, ans)
		}
		out := (api.MaxTickets - 1 - i) * api.MaxAmount
		for node := range c.Parents {
			want := sample.Laid{Limit: api.MaxLimit, Left: api.MaxLimit - out, Sum: out}
			if got := sample.Look(c, m.Words(), node); got != want {
				t.Fatalf("the one %d, node %d: %+v; want %+v", i, node, got, want)
			}
		}
	}
	if l := sample.Tickets(c, m.Words(), state.Free); len(l) != api.MaxTickets {
		t.Errorf("only %v are free", l)
	}
}

// P13.1: only the last Step tells true, and there is no answer ahead of it; behind it nothing is done, and true is told.
func TestStepsBehindTheLast(t *testing.T) {
	for _, f := range []struct {
		handle, n int
		other     bool // another one has it behind the first step
		steps     int
		want      api.Ans
	}{
		{32, 2, false, 12, back(2, 3)},
		{32, 5, false, 18, back(5, 3)},
		{48, 2, false, 1, none()},
		{33, 2, false, 1, none()},
		{32, 2, true, 2, none()},
	} {
		c := sample.Few()
		m, x := plan.Fresh(c), New(c, f.handle, 0)
		for _, p := range ticket(40, 2*v+live, 3, f.n) {
			m.Poke(p.W, p.X)
		}
		for step := 1; step <= f.steps+8; step++ {
			if step <= f.steps && x.Ans() != (api.Ans{}) {
				t.Errorf("%+v: %v ahead of step %d", f, x.Ans(), step)
			}
			if step == 2 && f.other {
				m.Poke(40, 3*v+ending)
			}
			last := x.Step(m)
			if last != (step >= f.steps) || len(m.Log()) != min(step, f.steps) {
				t.Errorf("%+v, step %d: %t, %d accesses", f, step, last, len(m.Log()))
			}
			// What the words are by then makes no difference to an answer.
			for w := range m.Len() {
				if last {
					m.Poke(w, step)
				}
			}
		}
		if x.Ans() != f.want {
			t.Errorf("%+v: %v", f, x.Ans())
		}
	}
}

func admits(c api.Conf, node, n, number int) func() mem.Machine {
	return func() mem.Machine { return admit.New(c, node, n, number) }
}

func releases(c api.Conf, handle, number int) func() mem.Machine {
	return func() mem.Machine { return New(c, handle, number) }
}

// together has threads step by a row of turns, then one behind the other, and checks that there is never too much, and that behind all nothing is lost, or made.
func together(t *testing.T, c api.Conf, m *mem.Mem, l []*sample.Thread, turns []int) {
	t.Helper()
	if wrong := sample.Together(c, m, l, turns); wrong != "" {
		t.Fatalf("%+v: %s, behind %v", c, wrong, m.Log())
	}
}

// released is how many of the answers say so.
func released(l []*sample.Thread) int {
	many := 0
	for _, x := range l {
		for _, ans := range x.Ans {
			if ans.Err == api.OK {
				many++
			}
		}
	}
	return many
}

// rows hands on each row of turns in which thread i has left[i].
func rows(left []int, ahead []int, do func([]int)) {
	ended := true
	for i := range left {
		if left[i] == 0 {
			continue
		}
		ended = false
		left[i]--
		rows(left, append(slices.Clone(ahead), i), do)
		left[i]++
	}
	if ended {
		do(ahead)
	}
}

// P13.2: three machines of one handle, by all rows of their first turns.
func TestOnceByAllRows(t *testing.T) {
	c := sample.Few()
	many := 0
	rows([]int{3, 3, 3}, nil, func(turns []int) {
		many++
		m := plan.Fresh(c)
		handle := played(t, m, admit.New(c, 3, 2, 0)).N
		var l []*sample.Thread
		for i := range 3 {
			l = append(l, &sample.Thread{Left: []func() mem.Machine{releases(c, handle, i)}})
		}
		together(t, c, m, l, turns)
		if released(l) != 1 || played(t, m, New(c, handle, 0)) != none() {
			t.Fatalf("by turns %v there were %d, behind %v", turns, released(l), m.Log())
		}
	})
	if many != 1680 {
		t.Errorf("%d rows", many)
	}
}

// P13.2: one is stopped behind each of its steps, for ever; another one of the same handle is done just if the first one did not have it.
func TestOnceThoughStopped(t *testing.T) {
	c := sample.Few()
	for stopped := range 18 {
		m := plan.Fresh(c)
		handle := played(t, m, admit.New(c, 2, 3, 0)).N
		first := New(c, handle, 0)
		for range stopped {
			first.Step(m)
		}
		want := none()
		if stopped < 2 {
			want = back(3, 2)
		}
		if ans := played(t, m, New(c, handle, 1)); ans != want {
			t.Errorf("%v, where the first one is stopped behind step %d", ans, stopped)
		}
		if node := sample.TooMuch(c, m.Words()); node >= 0 {
			t.Errorf("too much at node %d, where the first one is stopped behind step %d", node, stopped)
		}
	}
}

// P13.2: the ticket is had again, with the same body, behind each step of one that names its old version.
func TestOnceThoughHadAgain(t *testing.T) {
	c := sample.Few()
	c.Tickets = 1
	for stopped := range 2 {
		m := plan.Fresh(c)
		handle := played(t, m, admit.New(c, 3, 2, 0)).N
		late := New(c, handle, 0)
		for range stopped {
			late.Step(m)
		}
		for range 3 {
			played(t, m, New(c, handle, 1))
			handle = played(t, m, admit.New(c, 3, 2, 1)).N
		}
		if ans := played(t, m, late); ans != none() || !slices.Equal(sample.Handles(c, m.Words()), []int{handle}) {
			t.Errorf("%v, behind %d steps and others': %v", ans, stopped, m.Log())
		}
	}
}

// asking is a thread whose calls are drawn: it admits, releases what was admitted by any thread till then, or moves a limit. Of each release it keeps the handle.
type asking struct {
	sample.Thread
	handles map[int]int // the place of a release's answer, and its handle
}

// crowd are some threads, in a setting whose limits are near what they ask for.
func crowd(c api.Conf, pick sample.Pick) []*asking {
	var all []*asking
	told := func() []int {
		var l []int
		for _, x := range all {
			for i, ans := range x.Ans {
				if _, is := x.handles[i]; !is && ans.Err == api.OK && ans.N != 0 {
					l = append(l, ans.N)
				}
			}
		}
		return l
	}
	for number := range 2 + pick(api.MaxThreads-1) {
		x := &asking{handles: map[int]int{}}
		for at := range 2 + pick(8) {
			node, n, kind := pick(len(c.Parents)), 1+pick(12), pick(12)
			leaf := pick.Leaf(c)
			x.Left = append(x.Left, func() mem.Machine {
				switch l := told(); {
				case kind == 0:
					return shift.Raise(c, node, n)
				case kind == 1:
					return shift.Lower(c, node, n)
				case kind < 7 && len(l) > 0:
					x.handles[at] = l[(node+n)%len(l)]
					return New(c, x.handles[at], number)
				}
				return admit.New(c, leaf, n, number)
			})
		}
		all = append(all, x)
	}
	return all
}

// P13.2, P13.3: many threads, by drawn turns, that admit, and release what any of them admitted, while limits move.
func TestManyTogether(t *testing.T) {
	pick := sample.Drawer(24)
	done, refused := 0, 0
	for range 400 {
		c := pick.Setting()
		for node := range c.Limits {
			c.Limits[node] = 20 + pick(100)
		}
		all := crowd(c, pick)
		var l []*sample.Thread
		for _, x := range all {
			l = append(l, &x.Thread)
		}
		m := plan.Fresh(c)
		together(t, c, m, l, pick.Turns(len(l)))
		times := map[int]int{}
		for _, x := range all {
			for at, handle := range x.handles {
				if x.Ans[at].Err == api.OK {
					times[handle]++
					done++
				} else {
					refused++
				}
				if times[handle] > 1 {
					t.Fatalf("%+v: handle %d was released twice, behind %v", c, handle, m.Log())
				}
			}
		}
	}
	if done < 1000 || refused < 500 {
		t.Errorf("%d were released, %d refused", done, refused)
	}
}

// P3: machines stand apart, and what one does hangs on what it was given alone.
func TestMachinesStandApart(t *testing.T) {
	c := sample.Few()
	laid := func() *mem.Mem {
		m := plan.Fresh(c)
		played(t, m, admit.New(c, 3, 1, 0))
		played(t, m, admit.New(c, 2, 4, 1))
		return m
	}
	first, second, again := laid(), laid(), laid()
	a, b, other := New(c, 32, 0), New(c, 33, 0), New(c, 33, 1)
	for range 9 {
		a.Step(first)
		b.Step(first)
	}
	if ans := played(t, second, other); ans != back(4, 2) || played(t, again, New(c, 33, 1)) != ans || !slices.Equal(again.Log(), second.Log()) {
		t.Errorf("%v by %v, and asked again by %v", ans, second.Log(), again.Log())
	}
	if x, y := played(t, first, a), played(t, first, b); x != back(1, 3) || y != back(4, 2) {
		t.Errorf("%v, %v, by %v", x, y, first.Log())
	}
}

// P3: what is handed in stays as it is, its spare room too.
func TestSettingStays(t *testing.T) {
	c := sample.Few()
	parents, limits := append(make([]int, 0, 9), c.Parents...), append(make([]int, 0, 9), c.Limits...)
	c.Parents, c.Limits = parents, limits
	m := plan.Fresh(c)
	wasParents, wasLimits := slices.Clone(parents[:9]), slices.Clone(limits[:9])
	for n := range 9 {
		handle := played(t, m, admit.New(c, 2+n%2, 1+n%4, n)).N
		played(t, m, New(c, handle, n))
	}
	if !slices.Equal(parents[:9], wasParents) || !slices.Equal(limits[:9], wasLimits) {
		t.Errorf("parents %v, limits %v; want %v, %v", parents[:9], limits[:9], wasParents, wasLimits)
	}
}

// P1: nothing is said of other settings, handles, threads and words, but all calls end, and none panics.
func TestWrongInputsEnd(t *testing.T) {
	right := sample.Few()
	for _, a := range sample.Numbers() {
		for _, b := range sample.Numbers() {
			for _, m := range []*mem.Mem{nil, mem.New(0), mem.New(1), mem.New(41), plan.Fresh(right)} {
				m.Poke(40, live)
				m.Poke(41, b)
				m.Poke(0, live)
				m.Poke(1, a)
				for _, x := range []*Machine{
					New(right, a, b), New(right, 0, a), New(api.Conf{}, a, b), New(api.Conf{}, 0, b),
					New(api.Conf{Tickets: a, Stripes: b, Parents: []int{a, b}}, 0, 3),
					New(api.Conf{Tickets: 1, Stripes: a, Lease: b, Parents: []int{-1}}, 0, a),
					New(api.Conf{Tickets: 1, Stripes: 1, Gate: a, Parents: []int{-1, b}}, 0, b),
				} {
					if steps, _ := mem.Play(m, x, nil, 200); steps < 1 {
						t.Errorf("%d, %d, %d words: %d steps", a, b, m.Len(), steps)
					}
					x.Ans()
				}
			}
		}
	}
	for _, x := range []*Machine{nil, {}} {
		m := plan.Fresh(right)
		if !x.Step(m) || x.Ans() != (api.Ans{}) || len(m.Log()) != 0 {
			t.Error("a machine of nothing goes on, or answers")
		}
	}
}

// Wrong inputs: nothing is released by a handle that names no ticket, whatever the tickets are.
func TestWrongHandles(t *testing.T) {
	c, wide := sample.Few(), sample.Few()
	wide.Tickets = api.MaxTickets
	for _, handle := range []int{-1, -16, -1 << 63, -1<<63 + 32, 32 + 3, 32 + 15, 1 << 36, 1<<36 + 32, 1 << 62, 1<<63 - 1} {
		for _, version := range []int{0, 2, sample.MaxVersion} {
			m := plan.Fresh(wide)
			for k := range wide.Tickets {
				for _, p := range ticket(plan.Ticket(c, k), sample.Word(version, live), 3, 2) {
					m.Poke(p.W, p.X)
				}
			}
			if ans := played(t, m, New(c, handle, 0)); ans != none() || len(altered(m.Log())) > 0 {
				t.Errorf("handle %d, version %d: %v, by %v", handle, version, ans, m.Log())
			}
		}
	}
}

// Wrong inputs: by a thread that may not be, all goes back as by one that may be.
func TestWrongThreads(t *testing.T) {
	c := sample.Few()
	for _, number := range sample.Numbers() {
		m := plan.Fresh(c)
		handle := played(t, m, admit.New(c, 2, 3, 0)).N
		if ans := played(t, m, New(c, handle, number)); ans != back(3, 2) || sample.Amiss(c, m.Words()) >= 0 {
			t.Errorf("thread %d: %v, by %v", number, ans, m.Log())
		}
	}
}
