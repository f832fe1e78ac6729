package sched

import (
	"math"
	"slices"
	"strconv"
	"testing"

	"breadline/add"
	"breadline/api"
	"breadline/call"
	"breadline/mem"
	"breadline/plan"
	"breadline/sample"
	"breadline/usage"
)

// v is one version of a word.
const v = 1 << 32

// mostPicks are more than what any script of these tests takes.
const mostPicks = 200000

// What written runs are made of.
var load, plus, swapped, stored = sample.Load, sample.Plus, sample.Swapped, sample.Stored

// row is a thread's calls.
func row(l ...api.Call) []api.Call { return l }

func begin(at, thread int, x api.Call) api.Event {
	return api.Event{At: at, Thread: thread, Kind: api.Begin, Call: x}
}

func end(at, thread int, x api.Call, ans api.Ans) api.Event {
	return api.Event{At: at, Thread: thread, Kind: api.End, Call: x, Ans: ans}
}

// seen is what a pick tells, and what is so behind it.
type seen struct {
	thread         int
	is, busy, idle bool
	events, log    int
}

// follow picks as written, and tells what was to be seen otherwise.
func follow(t *testing.T, s *Sched, l []seen) {
	t.Helper()
	for i, want := range l {
		is := s.Pick(want.thread)
		got := seen{want.thread, is, s.Busy(want.thread), s.Idle(), len(s.Events()), len(s.Log())}
		if got != want {
			t.Errorf("pick %d: %+v; want %+v", i, got, want)
		}
	}
}

// told holds all that a Sched tells against what it is to tell.
func told(t *testing.T, s *Sched, events []api.Event, log []api.Access) {
	t.Helper()
	if got := s.Events(); !slices.Equal(got, events) {
		t.Errorf("events %+v; want %+v", got, events)
	}
	if got := s.Log(); !slices.Equal(got, log) {
		t.Errorf("log %v; want %v", got, log)
	}
}

// P16.1, of P1 and P2, written out: two threads by turns; a call that ends at its first step, and one with which something is wrong, which the next call waits for, and so does one behind all.
func TestPicked(t *testing.T) {
	c := sample.Few()
	raise, peek, lower := api.Call{Kind: api.Raise, Node: 1, N: 3}, api.Call{Kind: api.Peek, Node: 0}, api.Call{Kind: api.Lower, Node: 1, N: 3}
	none, noNode := api.Call{Kind: 7, Node: 1, N: 1}, api.Call{Kind: api.Admit, Node: 1}
	s := New(c, [][]api.Call{row(raise, peek), row(lower, none, noNode, peek)})
	if s.Idle() || s.Busy(0) || s.Busy(1) || len(s.Events()) != 0 || len(s.Log()) != 0 || !slices.Equal(s.Words(), plan.Fresh(c).Words()) {
		t.Errorf("at its beginning: %+v", s)
	}
	follow(t, s, []seen{
		{0, true, true, false, 1, 1},
		{1, true, true, false, 2, 2},
		{0, true, true, false, 2, 3},
		{1, true, true, false, 2, 4},
		{0, true, false, false, 3, 5},
		{0, true, false, false, 5, 6},
		{0, false, false, false, 5, 6},
		{1, true, false, false, 6, 7},
		{1, true, false, false, 8, 7},
		{2, false, false, false, 8, 7},
		{1, true, false, false, 10, 7},
		{1, true, false, true, 12, 8},
		{1, false, false, true, 12, 8},
		{0, false, false, true, 12, 8},
	})
	told(t, s, []api.Event{
		begin(0, 0, raise), begin(1, 1, lower), end(5, 0, raise, api.Ans{}),
		begin(5, 0, peek), end(6, 0, peek, api.Ans{}),
		end(7, 1, lower, api.Ans{}),
		begin(7, 1, none), end(7, 1, none, api.Ans{Err: api.ErrArg}),
		begin(7, 1, noNode), end(7, 1, noNode, api.Ans{Err: api.ErrNode}),
		begin(7, 1, peek), end(8, 1, peek, api.Ans{}),
	}, []api.Access{load(10, 10), load(11, 10), swapped(10, 10, 13), swapped(11, 10, 7), plus(11, 3, 10), load(4, 0), plus(10, -3, 10), load(4, 0)})
	if !slices.Equal(s.Words(), plan.Fresh(c).Words()) {
		t.Errorf("words %v", s.Words())
	}
}

// P16.1: a thread's machine is that of its own number; answers of all kinds are told, and a handle that one was told is released by one of two.
func TestAnswered(t *testing.T) {
	c := sample.Few()
	c.Threads = 3
	admit, release, over, count := api.Call{Kind: api.Admit, Node: 3, N: 2}, api.Call{Kind: api.Release, Node: 9, N: 33}, api.Call{Kind: api.Admit, Node: 3, N: 6}, api.Call{Kind: api.Usage, Node: 0, N: -4}
	noHandle := api.Call{Kind: api.Release, N: 35}
	s := Run(c, [][]api.Call{row(over, release), row(admit, count), row(release, noHandle)}, slices.Concat(slices.Repeat([]int{1}, 28), []int{0, 0, 0, 0, 0}, []int{2, 0, 2, 0}, slices.Repeat([]int{2}, 12)))
	told(t, s, []api.Event{
		begin(0, 1, admit), end(20, 1, admit, api.Ans{N: 33}),
		begin(20, 1, count), end(28, 1, count, api.Ans{N: 2, Exact: true}),
		begin(28, 0, over), end(33, 0, over, api.Ans{Err: api.ErrOver, Node: 3}),
		begin(33, 2, release), begin(34, 0, release),
		end(37, 0, release, api.Ans{Err: api.ErrTicket}), end(47, 2, release, api.Ans{N: 2, Node: 3}),
		begin(47, 2, noHandle), end(47, 2, noHandle, api.Ans{Err: api.ErrTicket}),
	}, slices.Concat(
		[]api.Access{load(42, 0), swapped(42, 0, v+1)},
		[]api.Access{load(33, 0), load(31, 5), swapped(31, 5, 1), load(33, 0), swapped(33, 0, 2)},
		[]api.Access{load(3, 0), load(1, 20), swapped(1, 20, 16), load(3, 0), swapped(3, 0, 2)},
		[]api.Access{stored(43, 3<<21+2), stored(42, 2*v+2), load(37, 1), load(38, 0), swapped(38, 0, v+2), load(7, 1), load(8, 0), swapped(8, 0, v+2)},
		[]api.Access{load(5, 0), load(6, 0), load(4, 0), load(8, v+2), load(9, 0), load(5, 0), load(8, v+2), load(9, 0)},
		[]api.Access{load(40, 0), swapped(40, 0, v+1), load(32, 0), load(31, 1), stored(40, 2*v)},
		[]api.Access{load(42, 2*v+2), load(42, 2*v+2), swapped(42, 2*v+2, 3*v+3), sample.Failed(42, 2*v+2, 3*v+3)},
		[]api.Access{load(43, 3<<21+2), plus(31, 2, 3), plus(1, 2, 18), load(37, 1), load(38, v+2), swapped(38, v+2, 2*v), load(7, 1), load(8, v+2), swapped(8, v+2, 2*v), stored(42, 4*v)},
	))
	if !s.Idle() || s.Busy(0) || s.Busy(1) || s.Busy(2) {
		t.Errorf("%+v", s)
	}
}

// P16.1: threads that there are not, and such as have nothing to do, do nothing.
func TestNothingDone(t *testing.T) {
	c := sample.Few()
	c.Threads = 4
	raise := api.Call{Kind: api.Raise, Node: 0, N: 5}
	for _, f := range []struct {
		calls [][]api.Call
		idle  bool
	}{{nil, true}, {[][]api.Call{}, true}, {[][]api.Call{nil}, true}, {[][]api.Call{{}, nil, {}, {}}, true}, {[][]api.Call{nil, row(raise), {}}, false}} {
		s := New(c, f.calls)
		for _, thread := range []int{0, 2, 3, 4, 7, 8, 1000, -1, -2, 1 << 32, 1<<32 + 1, math.MaxInt, math.MinInt, math.MinInt + 1} {
			if s.Pick(thread) || s.Busy(thread) || s.Idle() != f.idle {
				t.Errorf("%v: pick of %d: %t, idle %t", f.calls, thread, s.Busy(thread), s.Idle())
			}
		}
		told(t, s, nil, nil)
		if !slices.Equal(s.Words(), plan.Fresh(c).Words()) {
			t.Errorf("%v: words %v", f.calls, s.Words())
		}
	}
	s := New(c, [][]api.Call{nil, row(raise), {}})
	follow(t, s, []seen{{1, true, true, false, 1, 1}, {0, false, false, false, 1, 1}, {3, false, false, false, 1, 1}, {-1, false, false, false, 1, 1}, {4, false, false, false, 1, 1}, {1, true, true, false, 1, 2}, {1, true, false, true, 2, 3}, {1, false, false, true, 2, 3}})
}

// byHand is what the chapter says, with the machines of layer 15; time is read off the log.
type byHand struct {
	c      api.Conf
	m      *mem.Mem
	calls  [][]api.Call
	begun  []int // how many of each thread's calls
	on     []mem.Machine
	events []api.Event
}

func newByHand(c api.Conf, calls [][]api.Call) *byHand {
	return &byHand{c: c, m: plan.Fresh(c), calls: calls, begun: make([]int, len(calls)), on: make([]mem.Machine, len(calls))}
}

func (b *byHand) now(thread int) api.Call { return b.calls[thread][b.begun[thread]-1] }

func (b *byHand) busy(thread int) bool {
	return thread >= 0 && thread < len(b.calls) && b.on[thread] != nil
}

func (b *byHand) idle() bool {
	for thread, l := range b.calls {
		if b.on[thread] != nil || b.begun[thread] < len(l) {
			return false
		}
	}
	return true
}

func (b *byHand) pick(thread int) bool {
	if thread < 0 || thread >= len(b.calls) {
		return false
	}
	if b.on[thread] == nil {
		if b.begun[thread] == len(b.calls[thread]) {
			return false
		}
		b.begun[thread]++
		b.events = append(b.events, begin(len(b.m.Log()), thread, b.now(thread)))
		if err := call.Check(b.c, b.now(thread)); err != api.OK {
			b.events = append(b.events, end(len(b.m.Log()), thread, b.now(thread), api.Ans{Err: err}))
			return true
		}
		b.on[thread] = call.New(b.c, thread, b.now(thread))
	}
	if b.on[thread].Step(b.m) {
		b.events = append(b.events, end(len(b.m.Log()), thread, b.now(thread), b.on[thread].Ans()))
		b.on[thread] = nil
	}
	return true
}

// setting is a right one of any form, whose limits are soon used up, but for some near the greatest one.
func setting(pick sample.Pick) api.Conf {
	c := pick.Setting()
	c.Threads, c.Retry = 1+pick(api.MaxThreads), 1+pick(3)
	c.Tickets = pick.OneOf(c.Tickets, 1+pick(4), 1+pick(4))
	for node := range c.Limits {
		c.Limits[node] = pick.OneOf(5+pick(20), 20+pick(100), 20+pick(100), api.MaxLimit-pick(3))
	}
	return c
}

// picks are some turns, among them of threads that there are not.
func picks(pick sample.Pick, c api.Conf) []int {
	l := pick.Turns(c.Threads + 2)
	for i := range l {
		l[i]--
	}
	return l
}

// P16.1, of P1 and P2: whatever the script and the picks, behind each pick all is as the chapter says.
func TestAsTheChapterSays(t *testing.T) {
	pick := sample.Drawer(51)
	times := map[api.Errno]int{}
	for range 300 {
		c := setting(pick)
		calls := pick.Script(c, 6)
		s, b := New(c, calls), newByHand(c, calls)
		for i, thread := range picks(pick, c) {
			if is, want := s.Pick(thread), b.pick(thread); is != want {
				t.Fatalf("%+v, %v: pick %d, of %d: %t", c, calls, i, thread, is)
			}
			for x := -1; x <= c.Threads; x++ {
				if s.Busy(x) != b.busy(x) {
					t.Fatalf("%+v, %v: behind pick %d busy of %d is %t", c, calls, i, x, s.Busy(x))
				}
			}
			if s.Idle() != b.idle() {
				t.Fatalf("%+v, %v: behind pick %d idle is %t", c, calls, i, s.Idle())
			}
			if pick(8) == 0 && !(slices.Equal(s.Events(), b.events) && slices.Equal(s.Log(), b.m.Log()) && slices.Equal(s.Words(), b.m.Words())) {
				t.Fatalf("%+v, %v: behind pick %d events %v, log %v, words %v; want %v, %v, %v", c, calls, i, s.Events(), s.Log(), s.Words(), b.events, b.m.Log(), b.m.Words())
			}
		}
		told(t, s, b.events, b.m.Log())
		tally(times, s)
	}
	if times[api.OK] < 1200 || len(times) != 7 {
		t.Errorf("there were %v", times)
	}
}

// tally adds how often ends had each error.
func tally(times map[api.Errno]int, s *Sched) {
	for _, e := range s.Events() {
		if e.Kind == api.End {
			times[e.Ans.Err]++
		}
	}
}

// ends are how many of a row of events are ends.
func ends(l []api.Event) int {
	n := 0
	for _, e := range l {
		if e.Kind == api.End {
			n++
		}
	}
	return n
}

// P16.1, of P3: picks in a row tell the same as one behind the other, and so do none.
func TestRun(t *testing.T) {
	pick := sample.Drawer(52)
	for range 200 {
		c := setting(pick)
		calls := pick.Script(c, 5)
		l := picks(pick, c)
		l = l[:pick(len(l)+1)]
		s, r := New(c, calls), Run(c, calls, l)
		for _, thread := range l {
			s.Pick(thread)
		}
		told(t, r, s.Events(), s.Log())
		if !slices.Equal(r.Words(), s.Words()) || r.Idle() != s.Idle() {
			t.Fatalf("%+v, %v, %v: words %v; want %v", c, calls, l, r.Words(), s.Words())
		}
		for thread := range c.Threads {
			if r.Busy(thread) != s.Busy(thread) {
				t.Fatalf("%+v, %v, %v: busy of %d is %t", c, calls, l, thread, r.Busy(thread))
			}
		}
		if l := r.Events(); !r.Pick(0) && len(r.Events()) != len(l) {
			t.Fatalf("%+v, %v: %v", c, calls, r.Events())
		}
	}
	s := Run(sample.Few(), [][]api.Call{row(api.Call{Kind: api.Peek})}, nil)
	told(t, s, nil, nil)
	if s.Idle() || s.Busy(0) || !s.Pick(0) || !s.Idle() {
		t.Errorf("behind no picks: %+v", s)
	}
}

// P16.2: a pick makes one access at most: one, if a call is on by then, or ends by it, and none else; words are as that one leaves them. What was told stays.
func TestOneAtATime(t *testing.T) {
	pick := sample.Drawer(53)
	made, wrong := 0, 0
	for range 200 {
		c := setting(pick)
		calls := pick.Script(c, 4)
		s, m := New(c, calls), plan.Fresh(c)
		log, events := s.Log(), s.Events()
		for i, thread := range picks(pick, c) {
			is := s.Pick(thread)
			if got := s.Log(); len(got) < len(log) || len(got) > len(log)+1 || !slices.Equal(got[:len(log)], log) {
				t.Fatalf("%+v, %v: pick %d: %v behind %v", c, calls, i, got, log)
			}
			if got := s.Events(); len(got) < len(events) || !slices.Equal(got[:len(events)], events) {
				t.Fatalf("%+v, %v: pick %d: %v behind %v", c, calls, i, got, events)
			}
			news, steps := s.Events()[len(events):], s.Log()[len(log):]
			atOnce := len(news) == 2 && call.Check(c, news[0].Call) != api.OK
			if (len(steps) == 1) != (is && !atOnce) || !is && len(news) > 0 {
				t.Fatalf("%+v, %v: pick %d of %d: %t, %v, %v", c, calls, i, thread, is, news, steps)
			}
			for _, a := range steps {
				again(m, a)
				made++
			}
			if atOnce {
				wrong++
			}
			if !slices.Equal(s.Words(), m.Words()) {
				t.Fatalf("%+v, %v: pick %d: %v, by %v; want %v", c, calls, i, s.Words(), steps, m.Words())
			}
			log, events = s.Log(), s.Events()
		}
	}
	if made < 9000 || wrong < 50 {
		t.Errorf("there were %d accesses, and %d calls with which something was wrong", made, wrong)
	}
}

// again has a word be as an access left it.
func again(m *mem.Mem, a api.Access) {
	switch {
	case a.Kind == api.Add, a.Kind == api.Cas && a.Ok:
		m.Poke(a.W, a.B)
	case a.Kind == api.Store:
		m.Poke(a.W, a.A)
	}
}

// amiss is what the words are not as P16.3 says; an empty text, if they are.
func amiss(c api.Conf, s *Sched) string {
	words, idle := s.Words(), s.Idle()
	for node := range c.Parents {
		used, held := usage.Used(c, words, node), usage.Held(c, words, node)
		sum := add.Sum(sample.LaidOut(words), plan.Counter(c, node), c.Stripes)
		what := ""
		switch {
		case used > words[plan.Limit(c, node)]:
			what = "too much is used"
		case held < 0:
			what = "less than nothing is held"
		case idle && held != 0:
			what = "something is held, though all is idle"
		case idle && sum != used:
			what = "the counter is not what is used, though all is idle"
		}
		if what != "" {
			return what + ", node " + strconv.Itoa(node) + ": used " + strconv.Itoa(used) + ", held " + strconv.Itoa(held) + ", counted " + strconv.Itoa(sum)
		}
	}
	return ""
}

// finish picks those threads by turns till all of them tell false, and asks behind each pick whether anything is amiss.
func finish(t *testing.T, c api.Conf, s *Sched, threads ...int) {
	t.Helper()
	for range mostPicks {
		any := false
		for _, thread := range threads {
			any = safe(t, c, s, thread) || any
		}
		if !any {
			return
		}
	}
	t.Fatalf("%+v: no end, behind %v", c, s.Events())
}

// safe picks a thread, asks whether anything is amiss behind that, and tells what the pick told.
func safe(t *testing.T, c api.Conf, s *Sched, thread int) bool {
	t.Helper()
	is := s.Pick(thread)
	if what := amiss(c, s); what != "" {
		t.Fatalf("%+v: behind a pick of %d: %s; %v, by %v", c, thread, what, s.Events(), s.Log())
	}
	return is
}

// everyone is all threads of a setting.
func everyone(c api.Conf) []int {
	var l []int
	for thread := range c.Threads {
		l = append(l, thread)
	}
	return l
}

// P16.3: drawn scripts, by drawn picks, behind which some threads are stopped for ever, while the others go on to the end; then those too.
func TestSafe(t *testing.T) {
	pick := sample.Drawer(54)
	times, stopped, held, released := map[api.Errno]int{}, 0, 0, 0
	for range 400 {
		c := setting(pick)
		s := New(c, pick.Script(c, 8))
		for _, thread := range picks(pick, c)[:pick(250)] {
			safe(t, c, s, thread)
		}
		var on []int
		for _, thread := range everyone(c) {
			if pick(3) > 0 {
				on = append(on, thread)
			}
		}
		finish(t, c, s, on...)
		for thread := range c.Threads {
			if s.Busy(thread) {
				stopped++
			}
		}
		for node := range c.Parents {
			if usage.Held(c, s.Words(), node) > 0 {
				held++
			}
		}
		finish(t, c, s, everyone(c)...)
		if !s.Idle() {
			t.Fatalf("%+v: not idle, behind %v", c, s.Events())
		}
		tally(times, s)
		released += len(releases(s))
	}
	if times[api.OK] < 2500 || times[api.ErrOver] < 300 || len(times) != 7 || stopped < 100 || held < 50 || released < 40 {
		t.Errorf("there were %v, %d stopped threads, %d nodes of which something was held then, %d releases", times, stopped, held, released)
	}
}

// releases are the handles that were released, in order.
func releases(s *Sched) []int {
	var l []int
	for _, e := range s.Events() {
		if e.Kind == api.End && e.Call.Kind == api.Release && e.Ans.Err == api.OK {
			l = append(l, e.Call.N)
		}
	}
	return l
}

// releasing is a script by which each thread releases what it was admitted, while others count, and try the same handles. Where there are as many tickets as threads, and nobody is refused, each thread has its own ticket, and knows its handles.
func releasing(pick sample.Pick, c api.Conf) [][]api.Call {
	own := func(thread, times int) api.Call {
		return api.Call{Kind: api.Release, N: (4*times+2)*api.MaxTickets + thread}
	}
	var calls [][]api.Call
	for thread := range c.Threads {
		var l []api.Call
		for times := range 3 {
			others := row(own((thread+1)%c.Threads, times), api.Call{Kind: api.Usage, Node: pick(len(c.Parents))})
			l = append(l, api.Call{Kind: api.Admit, Node: pick.Leaf(c), N: 1 + pick(9)}, own(thread, times), others[pick(2)])
		}
		calls = append(calls, l)
	}
	return calls
}

// P16.3: where much is released; and by T4 nothing is twice.
func TestSafeWhileAllRelease(t *testing.T) {
	pick := sample.Drawer(59)
	released := 0
	for range 60 {
		c := setting(pick)
		c.Threads = 2 + pick(api.MaxThreads-1)
		c.Tickets = c.Threads
		for node := range c.Limits {
			c.Limits[node] = 100
		}
		s := New(c, releasing(pick, c))
		for _, thread := range picks(pick, c)[:300] {
			safe(t, c, s, thread)
		}
		finish(t, c, s, everyone(c)...)
		l := releases(s)
		slices.Sort(l)
		if !s.Idle() || len(l) != len(slices.Compact(slices.Clone(l))) {
			t.Fatalf("%+v: released %v, by %v", c, l, s.Events())
		}
		released += len(l)
	}
	if released < 600 {
		t.Errorf("there were %d releases", released)
	}
}

// P16.3: two threads, either of which is stopped behind each of its steps, while the other goes on.
func TestSafeWhereverTwoAreStopped(t *testing.T) {
	c := sample.Few()
	c.Gate, c.Tickets = 3, 2
	admit := func(node, n int) api.Call { return api.Call{Kind: api.Admit, Node: node, N: n} }
	release := func(handle int) api.Call { return api.Call{Kind: api.Release, N: handle} }
	for _, calls := range [][][]api.Call{
		{row(admit(3, 3), release(32)), row(admit(3, 3), release(33))},
		{row(admit(2, 4), release(32)), row(release(32), admit(3, 2))},
		{row(admit(2, 7), api.Call{Kind: api.Raise, Node: 1, N: 4}), row(api.Call{Kind: api.Lower, Node: 1, N: 4}, admit(2, 5))},
	} {
		first, second := alone(c, calls, 0), alone(c, calls, 1)
		for a := range first {
			for b := range second {
				s := New(c, calls)
				for range a {
					safe(t, c, s, 0)
				}
				for range b {
					safe(t, c, s, 1)
				}
				finish(t, c, s, 0)
				finish(t, c, s, 1)
				if !s.Idle() || ends(s.Events()) != len(calls[0])+len(calls[1]) {
					t.Fatalf("%v, %d and %d: %v", calls, a, b, s.Events())
				}
			}
		}
	}
}

// alone is how many picks a thread takes, alone.
func alone(c api.Conf, calls [][]api.Call, thread int) int {
	s, n := New(c, calls), 0
	for s.Pick(thread) {
		n++
	}
	return n
}

// P16.3: two threads, by all rows of their first picks.
func TestSafeByAllPicks(t *testing.T) {
	c := sample.Chain(1, 1, 2)
	c.Limits[0], c.Gate = 3, 2
	calls := [][]api.Call{
		row(api.Call{Kind: api.Admit, N: 2}, api.Call{Kind: api.Release, N: 32}),
		row(api.Call{Kind: api.Lower, N: 1}, api.Call{Kind: api.Admit, N: 1}, api.Call{Kind: api.Usage}),
	}
	times := map[api.Errno]int{}
	for first := range 1 << 12 {
		s := New(c, calls)
		for bit := range 12 {
			safe(t, c, s, first>>bit&1)
		}
		finish(t, c, s, 0, 1)
		if !s.Idle() {
			t.Fatalf("%b: %v", first, s.Events())
		}
		tally(times, s)
	}
	if times[api.OK] < 1<<13 || times[api.ErrOver] < 100 {
		t.Errorf("there were %v", times)
	}
}

// P16.1, P16.3: as many threads, calls, stripes, tenants and tickets as there may be.
func TestGreatest(t *testing.T) {
	pick := sample.Drawer(55)
	c := sample.Chain(api.MaxNodes, api.MaxStripes, api.MaxTickets)
	c.Threads, c.Retry = api.MaxThreads, api.MaxRetry
	c.Limits = slices.Repeat([]int{api.MaxLimit}, api.MaxNodes)
	c.Limits[0], c.Limits[5] = 3*api.MaxAmount, 2*api.MaxAmount
	var calls [][]api.Call
	for range api.MaxThreads {
		var l []api.Call
		for range api.MaxCalls {
			l = append(l, pick.Call(c, sample.Likely(c)...))
		}
		calls = append(calls, l)
	}
	s := New(c, calls)
	did := 0
	for i := 0; i < mostPicks && !s.Idle(); i++ {
		if s.Pick(pick(c.Threads)) {
			did++
		}
		if i%16 == 0 {
			if what := amiss(c, s); what != "" {
				t.Fatalf("behind %d picks: %s", i, what)
			}
		}
	}
	if what := amiss(c, s); !s.Idle() || what != "" || len(s.Events()) != 2*api.MaxThreads*api.MaxCalls || len(s.Log()) > did {
		t.Fatalf("%d picks: %s, %d events, %d accesses", did, what, len(s.Events()), len(s.Log()))
	}
	times := map[api.Errno]int{}
	tally(times, s)
	if times[api.OK] < 100 || times[api.ErrOver] < 5 || times[api.ErrTicket] < 5 {
		t.Errorf("there were %v", times)
	}
}

// P16.1: At of an event is how many accesses there were; of each thread there are beginnings and ends by turns, of its calls in order.
func TestEventsInOrder(t *testing.T) {
	pick := sample.Drawer(56)
	for range 100 {
		c := setting(pick)
		calls := pick.Script(c, 6)
		s := New(c, calls)
		var at []int
		for _, thread := range picks(pick, c) {
			was := len(s.Log())
			s.Pick(thread)
			for _, e := range s.Events()[len(at):] {
				if e.Kind == api.Begin {
					at = append(at, was)
				} else {
					at = append(at, len(s.Log()))
				}
			}
		}
		l := make([]int, len(calls))
		for i, e := range s.Events() {
			kind, ofCalls := api.Begin+l[e.Thread]%2, calls[e.Thread]
			if e.At != at[i] || e.Kind != kind || e.Call != ofCalls[l[e.Thread]/2] || kind == api.Begin && e.Ans != (api.Ans{}) {
				t.Fatalf("%+v, %v: event %d: %+v", c, calls, i, e)
			}
			l[e.Thread]++
		}
	}
}

// spaciousRows are the same rows, each with spare room, in which something stands, and so for all of them.
func spaciousRows(calls [][]api.Call) [][]api.Call {
	all := make([][]api.Call, 0, len(calls)+2)
	for _, l := range calls {
		all = append(all, append(slices.Clone(l), api.Call{Kind: 7}, api.Call{Kind: 8})[:len(l)])
	}
	return append(all, row(api.Call{Kind: 9}))[:len(calls)]
}

// deep is a copy of all rows, with their spare room.
func deep(calls [][]api.Call) [][]api.Call {
	var all [][]api.Call
	for _, l := range calls[:cap(calls)] {
		all = append(all, slices.Clone(l[:cap(l)]))
	}
	return all
}

// P3: what is handed in stays as it is, its spare room too; asked again, all is told again.
func TestHandedInStays(t *testing.T) {
	pick := sample.Drawer(57)
	for range 100 {
		c := setting(pick)
		c.Parents, c.Limits = sample.Spacious(c.Parents), sample.Spacious(c.Limits)
		calls, l := spaciousRows(pick.Script(c, 4)), sample.Spacious(picks(pick, c))
		parents, limits, rows, asked := slices.Clone(c.Parents[:cap(c.Parents)]), slices.Clone(c.Limits[:cap(c.Limits)]), deep(calls), slices.Clone(l[:cap(l)])
		first, second := Run(c, calls, l), Run(c, calls, l)
		told(t, second, first.Events(), first.Log())
		if !slices.Equal(first.Words(), second.Words()) || first.Idle() != second.Idle() {
			t.Fatalf("%+v, %v, %v: %v; then %v", c, calls, l, first.Words(), second.Words())
		}
		if !slices.Equal(c.Parents[:cap(c.Parents)], parents) || !slices.Equal(c.Limits[:cap(c.Limits)], limits) || !slices.Equal(l[:cap(l)], asked) || !slices.EqualFunc(deep(calls), rows, slices.Equal) {
			t.Fatalf("%+v, %v, %v; was %v, %v, %v, %v", c, calls, l, parents, limits, rows, asked)
		}
	}
}

// P3: a script is not kept, and lists that come out are new memory, their spare room too; threads go on as if nobody had altered any.
func TestNothingShared(t *testing.T) {
	pick := sample.Drawer(58)
	for range 100 {
		c := setting(pick)
		calls := pick.Script(c, 4)
		altered := spaciousRows(calls)
		s, b := New(c, altered), newByHand(c, calls)
		for _, l := range altered {
			spoil(l, api.Call{Kind: api.Raise, N: 1})
		}
		spoil(altered, nil)
		for _, thread := range picks(pick, c) {
			s.Pick(thread)
			b.pick(thread)
			if pick(10) == 0 {
				spoil(s.Events(), api.Event{At: -1})
				spoil(s.Words(), -7)
				spoil(s.Log(), api.Access{Kind: -1})
			}
		}
		told(t, s, b.events, b.m.Log())
		if !slices.Equal(s.Words(), b.m.Words()) {
			t.Fatalf("%+v, %v: %v; want %v", c, calls, s.Words(), b.m.Words())
		}
	}
}

// spoil sets all that stands in a list, its spare room too.
func spoil[T any](l []T, x T) {
	l = l[:cap(l)]
	for i := range l {
		l[i] = x
	}
}

// P3: those of one script stand apart.
func TestStandApart(t *testing.T) {
	c := sample.Few()
	calls := [][]api.Call{row(api.Call{Kind: api.Admit, Node: 3, N: 2}), row(api.Call{Kind: api.Admit, Node: 2, N: 2})}
	first, second := New(c, calls), New(c, calls)
	for range 9 {
		first.Pick(0)
	}
	if second.Busy(0) || second.Idle() || len(second.Events()) != 0 || len(second.Log()) != 0 || !slices.Equal(second.Words(), plan.Fresh(c).Words()) {
		t.Errorf("%+v", second)
	}
	finish(t, c, second, 1, 0)
	if !first.Busy(0) || first.Busy(1) || len(first.Events()) != 1 || len(first.Log()) != 9 {
		t.Errorf("%+v", first)
	}
}

// P1: nothing is said of no Sched, of other settings, and of longer scripts, but all calls end, and none panics.
func TestWrongInputsEnd(t *testing.T) {
	var none *Sched
	for _, s := range []*Sched{none, {}} {
		if s.Pick(0) || s.Busy(0) || !s.Idle() || len(s.Events())+len(s.Words())+len(s.Log()) != 0 {
			t.Errorf("%+v", s)
		}
	}
	for _, a := range sample.Numbers() {
		for _, b := range sample.Numbers() {
			var calls [][]api.Call
			for range api.MaxThreads + 2 {
				var l []api.Call
				for kind := -1; kind <= 8; kind++ {
					l = append(l, slices.Repeat(row(api.Call{Kind: kind, Node: 1, N: a}, api.Call{Kind: kind, Node: b, N: b}), 2)...)
				}
				calls = append(calls, l)
			}
			for _, c := range []api.Conf{
				{}, {Threads: a, Tickets: b, Stripes: a, Retry: b, Parents: []int{-1, b}},
				{Threads: 2, Tickets: 3, Stripes: b, Retry: a, Gate: a, Lease: b, Parents: []int{a, b, a}, Limits: []int{1, b, a, b}},
			} {
				s := Run(c, calls, []int{0, 1, a, b, 9, 9, 10, -1, 0, 0, 0, 1, 1, 1, 1})
				for range 60 {
					s.Pick(9)
					s.Busy(a)
				}
				s.Idle()
				s.Events()
				s.Words()
				s.Log()
			}
		}
	}
}
