package admit

import (
	"iter"
	"slices"
	"testing"

	"breadline/api"
	"breadline/draw"
	"breadline/mem"
	"breadline/pack"
	"breadline/plan"
	"breadline/sample"
	"breadline/shift"
	"breadline/tree"
)

var _ mem.Machine = (*Machine)(nil)

// The states' numbers, as the chapters say them.
const (
	free   = 0
	busy   = 1
	live   = 2
	ending = 3
)

// v is one version of a word.
const v = 1 << 32

// What written runs are made of.
var (
	load, plus, swapped, failed, stored = sample.Load, sample.Plus, sample.Swapped, sample.Failed, sample.Stored
	poke                                = sample.Poke
)

func had(handle int) api.Ans { return api.Ans{N: handle} }
func over(node int) api.Ans  { return api.Ans{Err: api.ErrOver, Node: node} }
func full() api.Ans          { return api.Ans{Err: api.ErrFull} }

// written is one whole run in the few's setting, as the chapter's words say it.
type written struct {
	name            string
	laid            []api.Poke // ahead of all
	node, n, thread int
	pokes           []api.Poke
	log             [][]api.Access // of each machine a row
	want            api.Ans
}

func (f written) check(t *testing.T) {
	t.Helper()
	c := sample.Few()
	m := plan.Fresh(c)
	for _, p := range f.laid {
		m.Poke(p.W, p.X)
	}
	x := New(c, f.node, f.n, f.thread)
	steps, last := mem.Play(m, x, f.pokes, 300)
	want := slices.Concat(f.log...)
	if steps != len(want) || !last || x.Ans() != f.want {
		t.Errorf("%s: %d steps, %t, %v; want %d, %v", f.name, steps, last, x.Ans(), len(want), f.want)
	}
	if got := m.Log(); !slices.Equal(got, want) {
		t.Errorf("%s: %v; want %v", f.name, got, want)
	}
}

// claimed is a claim of the first ticket that is looked at, whose state word is at w.
func claimed(w, was, is int) []api.Access { return []api.Access{load(w, was), swapped(w, was, is)} }

// P12.1, where all is admitted.
func TestAdmitted(t *testing.T) {
	for _, f := range []written{
		{"the first handle", nil, 3, 2, 0, nil, [][]api.Access{
			claimed(40, 0, v+busy),
			{load(32, 0), load(31, 5), swapped(31, 5, 1), load(32, 0), swapped(32, 0, 2)},
			{load(2, 0), load(1, 20), swapped(1, 20, 16), load(2, 0), swapped(2, 0, 2)},
			{stored(41, 3<<21+2), stored(40, 2*v+live)},
			{load(37, 1), load(38, 0), swapped(38, 0, v+2)},
			{load(7, 1), load(8, 0), swapped(8, 0, v+2)},
		}, had(32)},
		{"a path of three, above the gate", nil, 2, 4, 0, nil, [][]api.Access{
			claimed(40, 0, v+busy),
			{load(22, 0), load(21, 8), swapped(21, 8, 2), load(22, 0), swapped(22, 0, 2)},
			{load(12, 0), load(11, 10), swapped(11, 10, 4), load(12, 0), swapped(12, 0, 2)},
			{load(2, 0), load(1, 20), swapped(1, 20, 14), load(2, 0), swapped(2, 0, 2)},
			{stored(41, 2<<21+4), stored(40, 2*v+live)},
			{load(27, 1), load(28, 0), plus(25, 1, 1), swapped(28, 0, v), plus(24, 4, 4), plus(26, 1, 1)},
			{load(17, 1), load(18, 0), plus(15, 1, 1), swapped(18, 0, v), plus(14, 4, 4), plus(16, 1, 1)},
			{load(7, 1), load(8, 0), plus(5, 1, 1), swapped(8, 0, v), plus(4, 4, 4), plus(6, 1, 1)},
		}, had(32)},
		{"thread 1 has its own start and stripe", []api.Poke{{W: 42, X: 6 * v}, {W: 33, X: 3}, {W: 3, X: 1}}, 3, 1, 1, nil, [][]api.Access{
			claimed(42, 6*v, 7*v+busy),
			{load(33, 3), swapped(33, 3, 2)},
			{load(3, 1), swapped(3, 1, 0)},
			{stored(43, 3<<21+1), stored(42, 8*v+live)},
			{load(37, 1), load(38, 0), swapped(38, 0, v+1)},
			{load(7, 1), load(8, 0), swapped(8, 0, v+1)},
		}, had(8*16 + 1)},
		{"start and stripe go round, each by its own number", []api.Poke{{W: 40, X: 3 * v}, {W: 33, X: 4}, {W: 3, X: 4}}, 3, 1, 9, nil, [][]api.Access{
			claimed(40, 3*v, 4*v+busy),
			{load(33, 4), swapped(33, 4, 3)},
			{load(3, 4), swapped(3, 4, 3)},
			{stored(41, 3<<21+1), stored(40, 5*v+live)},
			{load(37, 1), load(38, 0), swapped(38, 0, v+1)},
			{load(7, 1), load(8, 0), swapped(8, 0, v+1)},
		}, had(5 * 16)},
		{"another ticket than the first, and just what is left", []api.Poke{{W: 40, X: v + busy}, {W: 42, X: 2*v + live}, {W: 31, X: 1}, {W: 1, X: 1}}, 3, 1, 0, nil, [][]api.Access{
			{load(40, v+busy), load(42, 2*v+live)}, claimed(44, 0, v+busy),
			{load(32, 0), load(31, 1), swapped(31, 1, 0)},
			{load(2, 0), load(1, 1), swapped(1, 1, 0)},
			{stored(45, 3<<21+1), stored(44, 2*v+live)},
			{load(37, 1), load(38, 0), swapped(38, 0, v+1)},
			{load(7, 1), load(8, 0), swapped(8, 0, v+1)},
		}, had(2*16 + 2)},
		{"the version goes round, and the old body is covered", []api.Poke{{W: 40, X: sample.Word(sample.MaxVersion-1, free)}, {W: 41, X: 99}, {W: 32, X: 4}, {W: 2, X: 4}}, 3, 3, 0, nil, [][]api.Access{
			claimed(40, sample.Word(sample.MaxVersion-1, free), sample.Word(sample.MaxVersion, busy)),
			{load(32, 4), swapped(32, 4, 1)},
			{load(2, 4), swapped(2, 4, 1)},
			{stored(41, 3<<21+3), stored(40, live)},
			{load(37, 1), load(38, 0), swapped(38, 0, v+3)},
			{load(7, 1), load(8, 0), swapped(8, 0, v+3)},
		}, had(0)},
		{"the last version", []api.Poke{{W: 40, X: sample.Word(sample.MaxVersion-2, free)}, {W: 32, X: 4}, {W: 2, X: 4}}, 3, 3, 0, nil, [][]api.Access{
			claimed(40, sample.Word(sample.MaxVersion-2, free), sample.Word(sample.MaxVersion-1, busy)),
			{load(32, 4), swapped(32, 4, 1)},
			{load(2, 4), swapped(2, 4, 1)},
			{stored(41, 3<<21+3), stored(40, sample.Word(sample.MaxVersion, live))},
			{load(37, 1), load(38, 0), swapped(38, 0, v+3)},
			{load(7, 1), load(8, 0), swapped(8, 0, v+3)},
		}, had(sample.MaxVersion * 16)},
	} {
		f.check(t)
	}
}

// P12.1, where it is refused, of the chapter's example among them.
func TestRefused(t *testing.T) {
	none := []api.Poke{{W: 40, X: v + busy}, {W: 42, X: 2*v + live}, {W: 44, X: 3*v + ending}}
	for _, f := range []written{
		{"the example", nil, 3, 6, 0, nil, [][]api.Access{
			claimed(40, 0, v+busy),
			{load(32, 0), load(31, 5)},
			{stored(40, 2*v+free)},
		}, over(3)},
		{"by the first tenant", []api.Poke{{W: 1, X: 2}}, 3, 3, 1, nil, [][]api.Access{
			claimed(42, 0, v+busy),
			{load(33, 0), load(31, 5), swapped(31, 5, 0), load(33, 0), swapped(33, 0, 2)},
			{load(3, 0), load(1, 2)},
			{plus(31, 3, 3), stored(42, 2*v+free)},
		}, over(0)},
		{"by the first tenant of three, and what was had last goes back first", []api.Poke{{W: 22, X: 4}, {W: 1, X: 0}}, 2, 4, 0, nil, [][]api.Access{
			claimed(40, 0, v+busy),
			{load(22, 4), swapped(22, 4, 0)},
			{load(12, 0), load(11, 10), swapped(11, 10, 4), load(12, 0), swapped(12, 0, 2)},
			{load(2, 0), load(1, 0)},
			{plus(11, 4, 8), plus(21, 4, 12), stored(40, 2*v+free)},
		}, over(0)},
		{"by the one between", []api.Poke{{W: 22, X: 1}, {W: 11, X: 0}}, 2, 1, 0, nil, [][]api.Access{
			claimed(40, 0, v+busy),
			{load(22, 1), swapped(22, 1, 0)},
			{load(12, 0), load(11, 0)},
			{plus(21, 1, 9), stored(40, 2*v+free)},
		}, over(1)},
		{"others' leases are of no use", []api.Poke{{W: 33, X: 4}, {W: 31, X: 0}}, 3, 1, 0, nil, [][]api.Access{
			claimed(40, 0, v+busy),
			{load(32, 0), load(31, 0)},
			{stored(40, 2*v+free)},
		}, over(3)},
		{"the version goes round", []api.Poke{{W: 40, X: sample.Word(sample.MaxVersion-1, free)}}, 3, 6, 0, nil, [][]api.Access{
			claimed(40, sample.Word(sample.MaxVersion-1, free), sample.Word(sample.MaxVersion, busy)),
			{load(32, 0), load(31, 5)},
			{stored(40, free)},
		}, over(3)},
		{"no ticket is free", none, 3, 1, 0, nil, [][]api.Access{
			{load(40, v+busy), load(42, 2*v+live), load(44, 3*v+ending)},
		}, full()},
		{"no ticket is free, and too little is left", append([]api.Poke{{W: 31, X: 0}}, none...), 3, 6, 2, nil, [][]api.Access{
			{load(44, 3*v+ending), load(40, v+busy), load(42, 2*v+live)},
		}, full()},
	} {
		f.check(t)
	}
}

// P12.1, among others.
func TestAmongOthers(t *testing.T) {
	for _, f := range []written{
		{"others have the ticket first", nil, 3, 6, 0, []api.Poke{poke(1, 40, v+busy)}, [][]api.Access{
			{load(40, 0), failed(40, 0, v+busy)}, claimed(42, 0, v+busy),
			{load(32, 0), load(31, 5)},
			{stored(42, 2*v+free)},
		}, over(3)},
		{"others have all tickets first", nil, 3, 1, 2, []api.Poke{poke(1, 44, v+busy), poke(3, 40, v+busy), poke(5, 42, v+busy)}, [][]api.Access{
			{load(44, 0), failed(44, 0, v+busy), load(40, 0), failed(40, 0, v+busy), load(42, 0), failed(42, 0, v+busy)},
		}, full()},
		{"others take the rest", nil, 3, 3, 0, []api.Poke{poke(4, 31, 2)}, [][]api.Access{
			claimed(40, 0, v+busy),
			{load(32, 0), load(31, 5), failed(31, 5, 0), load(31, 2)},
			{stored(40, 2*v+free)},
		}, over(3)},
		{"what goes back goes on top of what others did", []api.Poke{{W: 22, X: 1}, {W: 12, X: 1}, {W: 1, X: 0}}, 2, 1, 0, []api.Poke{poke(8, 11, 7), poke(9, 21, 3)}, [][]api.Access{
			claimed(40, 0, v+busy),
			{load(22, 1), swapped(22, 1, 0)},
			{load(12, 1), swapped(12, 1, 0)},
			{load(2, 0), load(1, 0)},
			{plus(11, 1, 8), plus(21, 1, 4), stored(40, 2*v+free)},
		}, over(0)},
		{"others give back too late", []api.Poke{{W: 32, X: 4}, {W: 1, X: 3}}, 3, 4, 0, []api.Poke{poke(6, 1, 20)}, [][]api.Access{
			claimed(40, 0, v+busy),
			{load(32, 4), swapped(32, 4, 0)},
			{load(2, 0), load(1, 3)},
			{plus(31, 4, 9), stored(40, 2*v+free)},
		}, over(0)},
		{"others count, too", []api.Poke{{W: 32, X: 1}, {W: 2, X: 1}}, 3, 1, 0, []api.Poke{poke(10, 38, v+1), poke(14, 7, 2)}, [][]api.Access{
			claimed(40, 0, v+busy),
			{load(32, 1), swapped(32, 1, 0)},
			{load(2, 1), swapped(2, 1, 0)},
			{stored(41, 3<<21+1), stored(40, 2*v+live)},
			{load(37, 1), load(38, 0), failed(38, 0, v+1), swapped(37, 1, 2)},
			// The first draw of thread 0, and the one behind it, are odd; each counter begins with the first one.
			{load(37, 2), load(39, 0), swapped(39, 0, v+1)},
			{load(7, 2), load(9, 0), swapped(9, 0, v+1)},
		}, had(32)},
	} {
		f.check(t)
	}
}

// script does as the chapters' words say, one behind the other; each access waits for its Step.
type script struct {
	c    api.Conf
	m    *mem.Mem
	next func() (bool, bool)
	wait func(bool) bool
	kept int // its ticket, while it is Busy; else -1
	ans  api.Ans
	told bool
}

func scripted(c api.Conf, node, n, thread int) *script {
	s := &script{c: c, kept: -1}
	s.next, _ = iter.Pull(func(yield func(bool) bool) {
		s.wait = yield
		s.ans = s.admit(node, n, thread)
	})
	s.next()
	return s
}

func (s *script) Step(m *mem.Mem) bool {
	s.m = m
	_, more := s.next()
	s.told = !more
	return s.told
}

func (s *script) Ans() api.Ans {
	if !s.told {
		return api.Ans{}
	}
	return s.ans
}

func (s *script) words() *mem.Mem {
	s.wait(true)
	return s.m
}

func (s *script) admit(node, n, thread int) api.Ans {
	k, was, ok := s.claim(thread)
	if !ok {
		return full()
	}
	path := tree.Path(s.c, node)
	for i, node := range path {
		if s.acquire(node, n, thread%s.c.Stripes) {
			continue
		}
		for i--; i >= 0; i-- {
			s.words().Add(plan.Avail(s.c, path[i]), n)
		}
		s.words().Store(plan.Ticket(s.c, k), turned(was, free))
		s.kept = -1
		return over(node)
	}
	s.words().Store(plan.Ticket(s.c, k)+1, node<<21+n)
	s.words().Store(plan.Ticket(s.c, k), turned(was, live))
	s.kept = -1
	for _, node := range path {
		s.add(node, n, draw.Begin(thread))
	}
	return had(int(uint32(was>>32)+1)*16 + k)
}

// turned has a version that is one more, going round.
func turned(w int, state int) int { return int(uint64(uint32(w>>32)+1)<<32) + state }

func (s *script) claim(start int) (int, int, bool) {
	for i := range s.c.Tickets {
		k := (start + i) % s.c.Tickets
		w := s.words().Load(plan.Ticket(s.c, k))
		if w&sample.MaxVersion == free && s.words().Cas(plan.Ticket(s.c, k), w, turned(w, busy)) {
			s.kept = k
			return k, turned(w, busy), true
		}
	}
	return 0, 0, false
}

func (s *script) acquire(node, n, stripe int) bool {
	lease, avail := plan.Lease(s.c, node, stripe), plan.Avail(s.c, node)
	for l := s.words().Load(lease); l >= n; l = s.words().Load(lease) {
		if s.words().Cas(lease, l, l-n) {
			return true
		}
	}
	e := 0
	for done := false; !done; {
		a := s.words().Load(avail)
		if a < n {
			return false
		}
		e = min(a-n, s.c.Lease/2)
		done = s.words().Cas(avail, a, a-n-e)
	}
	for e > 0 {
		l := s.words().Load(lease)
		if l+e > s.c.Lease {
			s.words().Add(avail, e)
			break
		}
		if s.words().Cas(lease, l, l+e) {
			break
		}
	}
	return true
}

func (s *script) add(node, d, x int) {
	for {
		l := s.words().Load(sample.Live(s.c, node))
		stripe := sample.Stripe(s.c, node, x%l)
		w := s.words().Load(stripe)
		value := int(int32(w)) + d
		if -s.c.Gate < value && value < s.c.Gate {
			if s.words().Cas(stripe, w, pair(w, value)) {
				return
			}
		} else if s.leave(node, stripe, w, value) {
			return
		}
		if l < s.c.Stripes {
			s.words().Cas(sample.Live(s.c, node), l, 2*l)
		}
		x = draw.Next(x)
	}
}

func (s *script) leave(node, stripe, w, value int) bool {
	s.words().Add(sample.Begun(s.c, node), 1)
	done := s.words().Cas(stripe, w, pair(w, 0))
	if done {
		s.words().Add(plan.Counter(s.c, node), value)
	}
	s.words().Add(sample.Done(s.c, node), 1)
	return done
}

// pair is the word behind w of a value.
func pair(w, value int) int { return turned(w, 0) + int(uint32(value)) }

// among is a machine, and the script of the same, each with a Mem of its own, that are disturbed alike.
type among struct {
	c               api.Conf
	node, n, thread int
	x               *Machine
	m               *mem.Mem
}

// amongOthers has both step, and holds each access and each answer of one against that of the other.
func amongOthers(t *testing.T, pick sample.Pick) among {
	t.Helper()
	c := pick.Setting()
	r := among{c: c, node: pick.Leaf(c), n: pick.Amount(), thread: pick(1001)}
	r.m = plan.Fresh(c)
	other := plan.Fresh(c)
	r.x = New(c, r.node, r.n, r.thread)
	s := scripted(c, r.node, r.n, r.thread)
	both := func() {
		w, to := pick.Disturb(c, s.kept)
		r.m.Poke(w, to)
		other.Poke(w, to)
	}
	for range pick.OneOf(0, 9, 200) {
		both()
	}
	often := pick.OneOf(1, 2, 5, 1000)
	for steps := 1; ; steps++ {
		if steps < 400 && pick(often) == 0 {
			both()
		}
		last, want := r.x.Step(r.m), s.Step(other)
		if last != want || r.x.Ans() != s.Ans() || len(r.m.Log()) != steps || steps > 4000 {
			t.Fatalf("%+v: %t, %v behind step %d, by %v; want %t, %v, by %v", r, last, r.x.Ans(), steps, r.m.Log(), want, s.Ans(), other.Log())
		}
		if last {
			break
		}
	}
	if !slices.Equal(r.m.Log(), other.Log()) || !slices.Equal(r.m.Words(), other.Words()) {
		t.Fatalf("%+v: %v; want %v", r, r.m.Log(), other.Log())
	}
	return r
}

// P12.1: whatever others do, all accesses, and answers, are those of the chapter's words.
func TestAsTheChapterSays(t *testing.T) {
	pick := sample.Drawer(12)
	times := map[api.Errno]int{}
	for range 6000 {
		times[amongOthers(t, pick).x.Ans().Err]++
	}
	if len(times) != 3 || times[api.OK] < 600 || times[api.ErrOver] < 600 || times[api.ErrFull] < 100 {
		t.Errorf("of 6000 there were %v", times)
	}
}

// P12.2: what its own accesses did, whatever others do.
func TestAllOrNone(t *testing.T) {
	pick := sample.Drawer(13)
	late := 0 // refused behind what was had
	for range 5000 {
		r := amongOthers(t, pick)
		log, ans := r.m.Log(), r.x.Ans()
		path := tree.Path(r.c, r.node)
		for node := range r.c.Parents {
			want := 0
			if ans.Err == api.OK && slices.Contains(path, node) {
				want = r.n
			}
			if left, counted := sample.Moved(r.c, log, node); left != -want || counted != want {
				t.Fatalf("%+v, node %d: %d are left, %d are counted, by %v", r, node, left, counted, log)
			}
		}
		r.checkTicket(t, log)
		if ans.Err == api.ErrOver && ans.Node != r.node {
			late++
		}
	}
	if late < 300 {
		t.Errorf("of 5000 only %d were refused late", late)
	}
}

// checkTicket checks what became of the ticket: it is told by the Cas that was done to its state word.
func (r among) checkTicket(t *testing.T, log []api.Access) {
	t.Helper()
	kept, is := api.Access{}, false
	var stores []api.Access
	for _, a := range log {
		if a.Kind == api.Cas && a.Ok && a.W >= plan.Ticket(r.c, 0) {
			kept, is = a, true
		}
		if a.Kind == api.Store {
			stores = append(stores, a)
		}
	}
	version := pack.Version(kept.A) + 2
	k := (kept.W - plan.Ticket(r.c, 0)) / 2
	switch r.x.Ans().Err {
	case api.OK:
		want := []api.Access{stored(kept.W+1, r.node<<21+r.n), stored(kept.W, sample.Word(version&sample.MaxVersion, live))}
		if !is || !slices.Equal(stores, want) || r.x.Ans().N != (version&sample.MaxVersion)*16+k {
			t.Fatalf("%+v: %v, stored %v; want %v", r, r.x.Ans(), stores, want)
		}
	case api.ErrOver:
		if want := []api.Access{stored(kept.W, sample.Word(version&sample.MaxVersion, free))}; !is || !slices.Equal(stores, want) || !slices.Equal(log[len(log)-1:], want) {
			t.Fatalf("%+v: %v, stored %v; want %v", r, r.x.Ans(), stores, want)
		}
	case api.ErrFull:
		if is || len(stores) != 0 {
			t.Fatalf("%+v: %v, by %v", r, r.x.Ans(), log)
		}
	}
}

// P12.2, alone: no word is altered otherwise; refused, all words are as they were, but for how what is left is shared, and the ticket's version.
func TestAloneAllOrNone(t *testing.T) {
	pick := sample.Drawer(14)
	for range 3000 {
		c := pick.Setting()
		m := plan.Fresh(c)
		for range pick(100) {
			m.Poke(pick.Disturb(c, -1))
		}
		node, n, thread := pick.Leaf(c), pick.Amount(), pick(1001)
		before := m.Words()
		x := New(c, node, n, thread)
		if _, last := mem.Play(m, x, nil, 1000); !last {
			t.Fatalf("%+v: no end, by %v", c, m.Log())
		}
		after, ok := m.Words(), x.Ans().Err == api.OK
		for other := range c.Parents {
			d := 0
			if ok && slices.Contains(tree.Path(c, node), other) {
				d = n
			}
			was, is := sample.Look(c, before, other), sample.Look(c, after, other)
			if is.Limit != was.Limit || is.Left != was.Left-d || is.Sum != was.Sum+d || is.OnTheWay != was.OnTheWay {
				t.Fatalf("%+v, %d for node %d by %d: %v, node %d had %+v, has %+v", c, n, node, thread, x.Ans(), other, was, is)
			}
			if !ok && !slices.Equal(before[plan.Counter(c, other):plan.Limit(c, other+1)], after[plan.Counter(c, other):plan.Limit(c, other+1)]) {
				t.Fatalf("%+v: refused, but counted at node %d", c, other)
			}
		}
		altered := 0
		for k := range c.Tickets {
			if w := plan.Ticket(c, k); before[w] != after[w] || before[w+1] != after[w+1] {
				altered++
				if !ok && (pack.Value(before[w]) != free || pack.Value(after[w]) != free || before[w+1] != after[w+1]) {
					t.Fatalf("%+v: refused, but ticket %d is %d, %d", c, k, after[w], after[w+1])
				}
			}
		}
		if (x.Ans() == full()) != (altered == 0) || altered > 1 {
			t.Fatalf("%+v: %v, but %d tickets were altered", c, x.Ans(), altered)
		}
	}
}

// P12.3: alone, all small pools of a leaf and its parent, and all states of two tickets.
func TestAloneRefusedWithCause(t *testing.T) {
	c := sample.Chain(2, 2, 2)
	for pools := range 4 * 3 * 2 * 4 * 3 * 2 {
		var own, other, avail [2]int
		rest := pools
		for node := range 2 {
			avail[node], own[node], other[node] = rest%4, rest/4%3, rest/12%2*4
			rest /= 24
		}
		for states := range 16 {
			for n := 1; n <= 3; n++ {
				m := plan.Fresh(c)
				for node := range 2 {
					m.Poke(plan.Avail(c, node), avail[node])
					m.Poke(plan.Lease(c, node, 1), own[node])
					m.Poke(plan.Lease(c, node, 0), other[node])
				}
				m.Poke(plan.Ticket(c, 0), sample.Word(4, states&3))
				m.Poke(plan.Ticket(c, 1), sample.Word(7, states>>2))
				little := func(node int) bool { return own[node] < n && avail[node] < n }
				want := had(9*16 + 1)
				switch {
				case states&3 != free && states>>2 != free:
					want = full()
				case little(1):
					want = over(1)
				case little(0):
					want = over(0)
				case states>>2 != free:
					want = had(6 * 16)
				}
				x := New(c, 1, n, 1)
				if _, last := mem.Play(m, x, nil, 99); !last || x.Ans() != want {
					t.Fatalf("%d of leases %v and %v, available %v, states %b: %t, %v; want %v, by %v", n, own, other, avail, states, last, x.Ans(), want, m.Log())
				}
			}
		}
	}
}

// P12.3: alone, at each place of the longest path, and of each stripe, one too little.
func TestAloneFirstOfThePath(t *testing.T) {
	for first := range api.MaxNodes {
		for behind := range first + 1 {
			c := sample.Chain(api.MaxNodes, 8, 16)
			c.Lease = 40
			m := plan.Fresh(c)
			thread, n := 11*first+behind, 7+behind
			for _, node := range []int{first, behind} {
				m.Poke(plan.Avail(c, node), n-1)
				m.Poke(plan.Lease(c, node, thread%8), n-1)
			}
			x := New(c, api.MaxNodes-1, n, thread)
			if _, last := mem.Play(m, x, nil, 999); !last || x.Ans() != over(first) {
				t.Errorf("%d and %d have too little: %t, %v", first, behind, last, x.Ans())
			}
			m.Poke(plan.Avail(c, first), n)
			m.Poke(plan.Lease(c, behind, thread%8), n)
			x = New(c, api.MaxNodes-1, n, thread)
			if _, last := mem.Play(m, x, nil, 999); !last || x.Ans() != had(4*16+thread%16) {
				t.Errorf("%d and %d have just enough: %t, %v", first, behind, last, x.Ans())
			}
		}
	}
}

// P12.1: the greatest numbers, of which something is said.
func TestGreatest(t *testing.T) {
	c := sample.Chain(api.MaxNodes, api.MaxStripes, api.MaxTickets)
	c.Gate, c.Lease = api.MaxGate, api.MaxAmount
	for node := range c.Limits {
		c.Limits[node] = api.MaxLimit
	}
	m := plan.Fresh(c)
	for times := 1; times <= api.MaxTickets; times++ {
		x := New(c, api.MaxNodes-1, api.MaxAmount, 1000)
		if _, last := mem.Play(m, x, nil, 999); !last || x.Ans() != had(2*16+(1000+times-1)%16) {
			t.Fatalf("the one %d: %t, %v", times, last, x.Ans())
		}
		for node := range c.Parents {
			want := sample.Laid{Limit: api.MaxLimit, Left: api.MaxLimit - times*api.MaxAmount, Sum: times * api.MaxAmount}
			if got := sample.Look(c, m.Words(), node); got != want {
				t.Fatalf("the one %d, node %d: %+v; want %+v", times, node, got, want)
			}
		}
	}
	x := New(c, api.MaxNodes-1, 1, 0)
	if steps, last := mem.Play(m, x, nil, 999); steps != 16 || !last || x.Ans() != full() {
		t.Errorf("behind them: %d, %t, %v", steps, last, x.Ans())
	}
}

// P12.1: only the last Step tells true, and there is no answer ahead of it; behind it nothing is done, and true is told.
func TestStepsBehindTheLast(t *testing.T) {
	for _, f := range []struct {
		n, avail, states int
		steps            int
		want             api.Ans
	}{
		{2, 20, free, 20, had(32)},
		{4, 20, free, 26, had(32)},
		{6, 20, free, 5, over(3)},
		{4, 3, free, 11, over(0)},
		{1, 20, live, 3, full()},
	} {
		c := sample.Few()
		m, x := plan.Fresh(c), New(c, 3, f.n, 0)
		m.Poke(plan.Avail(c, 0), f.avail)
		for k := range c.Tickets {
			m.Poke(plan.Ticket(c, k), f.states)
		}
		for step := 1; step <= f.steps+8; step++ {
			if step <= f.steps && x.Ans() != (api.Ans{}) {
				t.Errorf("%+v: %v ahead of step %d", f, x.Ans(), step)
			}
			last := x.Step(m)
			if last != (step >= f.steps) || len(m.Log()) != min(step, f.steps) {
				t.Errorf("%+v, step %d: %t, %d accesses", f, step, last, len(m.Log()))
			}
			// What the words are by then makes no difference to an answer.
			for w := range m.Len() {
				if last {
					m.Poke(w, step)
				}
			}
		}
		if x.Ans() != f.want {
			t.Errorf("%+v: %v", f, x.Ans())
		}
	}
}

// together has threads step by a row of turns, then one behind the other, and checks that there is never too much, that behind all nothing is lost, or made, and that the handles that were told name the tickets that are live.
func together(t *testing.T, c api.Conf, l []*sample.Thread, turns []int) {
	t.Helper()
	m := plan.Fresh(c)
	if wrong := sample.Together(c, m, l, turns); wrong != "" {
		t.Fatalf("%+v: %s, behind %v", c, wrong, m.Log())
	}
	var told []int
	for _, x := range l {
		for _, ans := range x.Ans {
			if ans.Err == api.OK && ans.N != 0 {
				told = append(told, ans.N)
			}
		}
	}
	slices.Sort(told)
	if want := sample.Handles(c, m.Words()); !slices.Equal(told, want) {
		t.Fatalf("%+v: handles %v were told, %v are live, behind %v", c, told, want, m.Log())
	}
}

func admits(c api.Conf, node, n, number int) func() mem.Machine {
	return func() mem.Machine { return New(c, node, n, number) }
}

// times is so many of one number.
func times(many, of int) []int { return slices.Repeat([]int{of}, many) }

// P12.2: two threads, each stopped behind each step of its own.
func TestStoppedWherever(t *testing.T) {
	c := sample.Few()
	for _, f := range []struct{ first, second, n, m, other int }{
		{2, 2, 4, 4, 1}, {2, 3, 6, 5, 1}, {3, 3, 3, 3, 2}, {2, 3, 8, 2, 0}, {3, 3, 5, 6, 3},
	} {
		for i := range 32 {
			for j := range 32 {
				l := []*sample.Thread{
					{Left: []func() mem.Machine{admits(c, f.first, f.n, 0)}},
					{Left: []func() mem.Machine{admits(c, f.second, f.m, f.other)}},
				}
				together(t, c, l, slices.Concat(times(i, 0), times(j, 1), times(32, 0)))
			}
		}
	}
}

// P12.2: many threads, by drawn turns, while limits are raised and lowered.
func TestManyTogether(t *testing.T) {
	pick := sample.Drawer(15)
	answers := map[api.Errno]int{}
	for range 400 {
		c := pick.Setting()
		for node := range c.Limits {
			c.Limits[node] = 20 + pick(100)
		}
		var l []*sample.Thread
		for i := range 2 + pick(api.MaxThreads-1) {
			x := &sample.Thread{}
			for range 1 + pick(4) {
				next := admits(c, pick.Leaf(c), 1+pick(12), i)
				node, n, raised := pick(len(c.Parents)), 1+pick(20), pick(2) == 0
				if pick(5) == 0 {
					next = func() mem.Machine {
						if raised {
							return shift.Raise(c, node, n)
						}
						return shift.Lower(c, node, n)
					}
				}
				x.Left = append(x.Left, next)
			}
			l = append(l, x)
		}
		together(t, c, l, pick.Turns(len(l)))
		sample.Tally(answers, l)
	}
	if len(answers) != 3 || answers[api.OK] < 800 || answers[api.ErrOver] < 200 || answers[api.ErrFull] < 100 {
		t.Errorf("answers: %v", answers)
	}
}

// P3: machines stand apart, and what one does hangs on what it was given alone.
func TestMachinesStandApart(t *testing.T) {
	c := sample.Few()
	first, second := plan.Fresh(c), plan.Fresh(c)
	a, b, other := New(c, 3, 1, 0), New(c, 3, 1, 0), New(c, 2, 4, 1)
	for range 20 {
		a.Step(first)
		b.Step(first)
	}
	mem.Play(second, other, nil, 99)
	again := plan.Fresh(c)
	mem.Play(again, New(c, 2, 4, 1), nil, 99)
	if other.Ans() != had(33) || !slices.Equal(again.Log(), second.Log()) {
		t.Errorf("%v by %v, and asked again by %v", other.Ans(), second.Log(), again.Log())
	}
	mem.Play(first, a, nil, 99)
	mem.Play(first, b, nil, 99)
	if a.Ans() != had(32) || b.Ans() != had(33) {
		t.Errorf("%v, %v, by %v", a.Ans(), b.Ans(), first.Log())
	}
}

// P3: what is handed in stays as it is, its spare room too.
func TestSettingStays(t *testing.T) {
	c := sample.Few()
	parents, limits := append(make([]int, 0, 9), c.Parents...), append(make([]int, 0, 9), c.Limits...)
	c.Parents, c.Limits = parents, limits
	m := plan.Fresh(c)
	wasParents, wasLimits := slices.Clone(parents[:9]), slices.Clone(limits[:9])
	for n := range 9 {
		mem.Play(m, New(c, 2+n%2, 1+n, n), nil, 99)
	}
	if !slices.Equal(parents[:9], wasParents) || !slices.Equal(limits[:9], wasLimits) {
		t.Errorf("parents %v, limits %v; want %v, %v", parents[:9], limits[:9], wasParents, wasLimits)
	}
}

// P1: nothing is said of other settings, nodes, amounts, threads and words, but all calls end, and none panics.
func TestWrongInputsEnd(t *testing.T) {
	right := sample.Few()
	for _, a := range sample.Numbers() {
		for _, b := range sample.Numbers() {
			for _, m := range []*mem.Mem{nil, mem.New(0), mem.New(1), mem.New(41), plan.Fresh(right)} {
				for _, x := range []*Machine{
					New(right, a, b, 0), New(right, a, 1, b), New(right, 3, a, b), New(api.Conf{}, a, b, 0),
					New(api.Conf{Tickets: a, Stripes: b, Parents: []int{a, b}}, 0, 1, 3),
					New(api.Conf{Tickets: 1, Stripes: a, Lease: b, Parents: []int{-1}}, 0, 1, a),
					New(api.Conf{Tickets: 1, Stripes: 1, Gate: a, Parents: []int{-1, b}}, 1, 1, b),
				} {
					if steps, _ := mem.Play(m, x, nil, 200); steps < 1 {
						t.Errorf("%d, %d, %d words: %d steps", a, b, m.Len(), steps)
					}
					x.Ans()
				}
			}
		}
	}
	for _, x := range []*Machine{nil, {}} {
		m := plan.Fresh(right)
		if !x.Step(m) || x.Ans() != (api.Ans{}) || len(m.Log()) != 0 {
			t.Error("a machine of nothing goes on, or answers")
		}
	}
}

// P1, and wrong inputs: for a thread that may not be, a lease, the counters and the tickets are reached as for one that may be.
func TestWrongThreads(t *testing.T) {
	c := sample.Few()
	logOf := func(number int) []api.Access {
		m, x := plan.Fresh(c), New(c, 3, 2, number)
		if _, last := mem.Play(m, x, nil, 99); !last || x.Ans().Err != api.OK {
			t.Errorf("thread %d: %t, %v, by %v", number, last, x.Ans(), m.Log())
		}
		return m.Log()
	}
	for _, number := range sample.Numbers() {
		log := logOf(number)
		if left, counted := sample.Moved(c, log, 3); left != -2 || counted != 2 {
			t.Errorf("thread %d: %d are left, %d are counted, by %v", number, left, counted, log)
		}
		if number < 0 && !slices.Equal(log, logOf(0)) {
			t.Errorf("thread %d: %v", number, log)
		}
	}
}

// A store keeps to what a machine is: behind its one access a Step does nothing, and tells true.
func TestStoreIsAMachine(t *testing.T) {
	m := mem.New(3)
	var x mem.Machine = &store{w: 1, x: 5}
	for step := range 3 {
		if last := x.Step(m); !last || x.Ans() != (api.Ans{}) || !slices.Equal(m.Log(), []api.Access{stored(1, 5)}) {
			t.Errorf("step %d: %t, %v, by %v", step, last, x.Ans(), m.Log())
		}
	}
}
