package claim

import (
	"math"
	"slices"
	"testing"

	"breadline/api"
	"breadline/draw"
	"breadline/mem"
	"breadline/pack"
	"breadline/plan"
)

var _ mem.Machine = (*Machine)(nil)

// The states' numbers, as the chapters say them.
const (
	free   = 0
	busy   = 1
	live   = 2
	ending = 3
)

const maxVersion = 1<<32 - 1

// set is a setting of tenants that all hang on the first one.
func set(nodes, stripes, tickets int) api.Conf {
	c := api.Conf{Threads: 2, Stripes: stripes, Gate: 8, Lease: 4, Retry: 2, Tickets: tickets}
	for node := range nodes {
		c.Parents = append(c.Parents, min(node, 1)-1)
		c.Limits = append(c.Limits, 100+7*node)
	}
	return c
}

// firstTicket is the word of ticket 0's state, counted out.
func firstTicket(c api.Conf) int { return len(c.Parents) * (6 + 2*c.Stripes) }

// stateWord is the one of a version and a value, also of one that is no state, which pack has right.
func stateWord(version int, value int) int {
	w, _ := pack.Word(version, value)
	return w
}

// laid is a Mem whose tickets' state words are these, with bodies that all differ; c has as many tickets.
func laid(c api.Conf, words ...int) *mem.Mem {
	m := plan.Fresh(c)
	for k, w := range words {
		m.Poke(firstTicket(c)+2*k, w)
		m.Poke(firstTicket(c)+2*k+1, 7+k)
	}
	return m
}

func load(w, a int) api.Access       { return api.Access{Kind: api.Load, W: w, A: a} }
func swapped(w, a, b int) api.Access { return api.Access{Kind: api.Cas, W: w, A: a, B: b, Ok: true} }
func failed(w, a, b int) api.Access  { return api.Access{Kind: api.Cas, W: w, A: a, B: b} }
func poke(at, w, x int) api.Poke     { return api.Poke{At: at, W: w, X: x} }

func had(ticket int) api.Ans { return api.Ans{N: ticket} }

func full() api.Ans { return api.Ans{Err: api.ErrFull} }

// The state words of three tickets of three nodes, where there are two stripes.
const (
	t0 = 30
	t1 = 32
	t2 = 34
)

// written is one whole run, as the chapter's steps say it.
type written struct {
	name  string
	words [3]int
	start int
	pokes []api.Poke
	log   []api.Access
	want  api.Ans
	word  int
}

func (f written) check(t *testing.T) {
	t.Helper()
	c := set(3, 2, 3)
	m := laid(c, f.words[:]...)
	want := m.Words()
	for _, p := range f.pokes {
		want[p.W] = p.X
	}
	if f.want.Err == api.OK {
		want[t0+2*f.want.N] = f.word
	}
	x := New(c, f.start)
	steps, last := mem.Play(m, x, f.pokes, 100)
	if steps != len(f.log) || !last || x.Ans() != f.want || x.Word() != f.word {
		t.Errorf("%s: %d steps, %t, %v, word %d; want %d, %v, %d", f.name, steps, last, x.Ans(), x.Word(), len(f.log), f.want, f.word)
	}
	if got := m.Log(); !slices.Equal(got, f.log) {
		t.Errorf("%s: %v; want %v", f.name, got, f.log)
	}
	if got := m.Words(); !slices.Equal(got, want) {
		t.Errorf("%s: in the end %v; want %v", f.name, got, want)
	}
}

// P11.1, alone, of the chapter's example among them.
func TestClaim(t *testing.T) {
	v := 1 << 32
	for _, f := range []written{
		{"the example", [3]int{}, 4, nil, []api.Access{load(t1, 0), swapped(t1, 0, v+busy)}, had(1), v + busy},
		{"the first one", [3]int{}, 0, nil, []api.Access{load(t0, 0), swapped(t0, 0, v+busy)}, had(0), v + busy},
		{"the last one", [3]int{}, 2, nil, []api.Access{load(t2, 0), swapped(t2, 0, v+busy)}, had(2), v + busy},
		{"of the greatest start", [3]int{}, 1000, nil, []api.Access{load(t1, 0), swapped(t1, 0, v+busy)}, had(1), v + busy},
		{"of a start that is as many", [3]int{}, 3, nil, []api.Access{load(t0, 0), swapped(t0, 0, v+busy)}, had(0), v + busy},
		{"of a version", [3]int{9 * v, 0, 0}, 0, nil, []api.Access{load(t0, 9*v), swapped(t0, 9*v, 10*v+busy)}, had(0), 10*v + busy},
		{"one is busy", [3]int{v + busy, 4 * v, 0}, 0, nil,
			[]api.Access{load(t0, v+busy), load(t1, 4*v), swapped(t1, 4*v, 5*v+busy)}, had(1), 5*v + busy},
		{"one is live, one is ending", [3]int{2*v + live, 3*v + ending, 4 * v}, 0, nil,
			[]api.Access{load(t0, 2*v+live), load(t1, 3*v+ending), load(t2, 4*v), swapped(t2, 4*v, 5*v+busy)}, had(2), 5*v + busy},
		{"behind the last one comes the first", [3]int{0, 0, v + busy}, 2, nil,
			[]api.Access{load(t2, v+busy), load(t0, 0), swapped(t0, 0, v+busy)}, had(0), v + busy},
		{"only the one ahead of the start", [3]int{6 * v, v + busy, v + busy}, 4, nil,
			[]api.Access{load(t1, v+busy), load(t2, v+busy), load(t0, 6*v), swapped(t0, 6*v, 7*v+busy)}, had(0), 7*v + busy},
		{"none", [3]int{v + busy, 2*v + live, 3*v + ending}, 0, nil,
			[]api.Access{load(t0, v+busy), load(t1, 2*v+live), load(t2, 3*v+ending)}, full(), 0},
		{"none, from between", [3]int{v + busy, 2*v + live, 3*v + ending}, 7, nil,
			[]api.Access{load(t1, 2*v+live), load(t2, 3*v+ending), load(t0, v+busy)}, full(), 0},
		{"of the last version", [3]int{-v, 0, 0}, 0, nil, []api.Access{load(t0, -v), swapped(t0, -v, busy)}, had(0), busy},
		{"of half the versions", [3]int{math.MaxInt - maxVersion, 0, 0}, 0, nil,
			[]api.Access{load(t0, math.MaxInt-maxVersion), swapped(t0, math.MaxInt-maxVersion, math.MinInt+busy)}, had(0), math.MinInt + busy},
		{"of no state", [3]int{4, maxVersion, 5 * v}, 0, nil,
			[]api.Access{load(t0, 4), load(t1, maxVersion), load(t2, 5*v), swapped(t2, 5*v, 6*v+busy)}, had(2), 6*v + busy},
	} {
		f.check(t)
	}
}

// P11.1, among others.
func TestClaimAmongOthers(t *testing.T) {
	v := 1 << 32
	for _, f := range []written{
		{"missed once", [3]int{}, 0, []api.Poke{poke(1, t0, v+busy)},
			[]api.Access{load(t0, 0), failed(t0, 0, v+busy), load(t1, 0), swapped(t1, 0, v+busy)}, had(1), v + busy},
		{"missed, though it is free again", [3]int{}, 0, []api.Poke{poke(1, t0, v+busy), poke(1, t0, 2*v)},
			[]api.Access{load(t0, 0), failed(t0, 0, v+busy), load(t1, 0), swapped(t1, 0, v+busy)}, had(1), v + busy},
		{"there and back again", [3]int{}, 0, []api.Poke{poke(1, t0, v+busy), poke(1, t0, 0)},
			[]api.Access{load(t0, 0), swapped(t0, 0, v+busy)}, had(0), v + busy},
		{"had just ahead", [3]int{}, 2, []api.Poke{poke(0, t2, v+busy)},
			[]api.Access{load(t2, v+busy), load(t0, 0), swapped(t0, 0, v+busy)}, had(0), v + busy},
		{"free by then", [3]int{v + busy, v + busy, 0}, 0, []api.Poke{poke(1, t1, 2*v)},
			[]api.Access{load(t0, v+busy), load(t1, 2*v), swapped(t1, 2*v, 3*v+busy)}, had(1), 3*v + busy},
		{"free too late", [3]int{v + busy, v + busy, v + live}, 0, []api.Poke{poke(1, t0, 2*v), poke(2, t1, 2*v)},
			[]api.Access{load(t0, v+busy), load(t1, v+busy), load(t2, v+live)}, full(), 0},
		{"missed at the last one", [3]int{v + busy, v + busy, 8 * v}, 0, []api.Poke{poke(3, t2, 9*v+busy)},
			[]api.Access{load(t0, v+busy), load(t1, v+busy), load(t2, 8*v), failed(t2, 8*v, 9*v+busy)}, full(), 0},
		{"missed at all", [3]int{}, 5, []api.Poke{poke(1, t2, v+busy), poke(3, t0, v+live), poke(5, t1, 2*v)},
			[]api.Access{load(t2, 0), failed(t2, 0, v+busy), load(t0, 0), failed(t0, 0, v+busy), load(t1, 0), failed(t1, 0, v+busy)}, full(), 0},
	} {
		f.check(t)
	}
}

// P11.1: each start, and each number of tickets; no word but the ticket's is altered.
func TestEachStart(t *testing.T) {
	for tickets := 1; tickets <= api.MaxTickets; tickets++ {
		for start := range 1001 {
			c := set(1+start%api.MaxNodes, 1<<(start%4), tickets)
			m := plan.Fresh(c)
			want := m.Words()
			k := start
			for k >= tickets {
				k -= tickets
			}
			want[firstTicket(c)+2*k] = 1<<32 + 1
			x := New(c, start)
			if steps, last := mem.Play(m, x, nil, 9); steps != 2 || !last || x.Ans() != had(k) || x.Word() != 1<<32+1 || !slices.Equal(m.Words(), want) {
				t.Fatalf("start %d of %d tickets: %d, %t, %v, word %d, by %v", start, tickets, steps, last, x.Ans(), x.Word(), m.Log())
			}
		}
	}
}

// P11.1: one behind the other, from one start, till none is left.
func TestOneBehindTheOther(t *testing.T) {
	for tickets := 1; tickets <= api.MaxTickets; tickets++ {
		for start := range 2 * tickets {
			c := set(2, 2, tickets)
			m := plan.Fresh(c)
			for i := range tickets + 2 {
				x := New(c, start)
				steps, _ := mem.Play(m, x, nil, 99)
				want, word, most := had((start+i)%tickets), 1<<32+1, i+2
				if i >= tickets {
					want, word, most = full(), 0, tickets
				}
				if x.Ans() != want || x.Word() != word || steps != most {
					t.Errorf("start %d of %d tickets, claim %d: %d steps, %v, word %d", start, tickets, i, steps, x.Ans(), x.Word())
				}
			}
		}
	}
}

// numbered is a machine as the chapter writes it: a step's number, and what it says of the next one.
type numbered struct {
	first, tickets int
	start, k       int
	at, was        int
	ended          bool
	ans            api.Ans
	word           int
}

func number(c api.Conf, start int) *numbered {
	k := start - start/c.Tickets*c.Tickets
	return &numbered{first: firstTicket(c), tickets: c.Tickets, start: k, k: k}
}

func (r *numbered) Step(m *mem.Mem) bool {
	w := r.first + 2*r.k
	switch r.at {
	case 0:
		if r.was = m.Load(w); r.was&maxVersion == free {
			r.at = 1
		} else {
			r.next()
		}
	case 1:
		// The version is one more, going round, and the value is Busy's.
		turned := int(uint64(uint32(r.was>>32)+1)<<32) + busy
		if m.Cas(w, r.was, turned) {
			r.ended, r.ans, r.word = true, had(r.k), turned
		} else {
			r.next()
		}
	}
	return r.ended
}

func (r *numbered) next() {
	r.at = 0
	if r.k++; r.k == r.tickets {
		r.k = 0
	}
	if r.k == r.start {
		r.ended, r.ans = true, full()
	}
}

func (r *numbered) Ans() api.Ans { return r.ans }

// drawer picks one of so many, always by the same row.
func drawer(thread int) func(many int) int {
	x := draw.Begin(thread)
	return func(many int) int {
		x = draw.Next(x)
		return draw.Pick(x, many)
	}
}

func oneOf(pick func(int) int, l ...int) int { return l[pick(len(l))] }

// someState is any state word, now and then of no state.
func someState(pick func(int) int) int {
	version := oneOf(pick, 0, 1, 2, 3, pick(5), 1<<31-1, 1<<31, maxVersion-1, maxVersion)
	return stateWord(version, oneOf(pick, free, free, free, busy, live, ending, 4, -1))
}

func someSetting(pick func(int) int) api.Conf {
	return set(1+pick(api.MaxNodes), oneOf(pick, 1, 2, 4, 8), 1+pick(api.MaxTickets))
}

func someMem(c api.Conf, pick func(int) int) *mem.Mem {
	var words []int
	for range c.Tickets {
		words = append(words, someState(pick))
	}
	return laid(c, words...)
}

func copied(m *mem.Mem) *mem.Mem {
	other := mem.New(m.Len())
	for w, x := range m.Words() {
		other.Poke(w, x)
	}
	return other
}

// P11.1: whatever others do, all accesses, and answers, are those of the chapter's steps.
func TestAsNumberedSteps(t *testing.T) {
	pick := drawer(4)
	refused, missed := 0, 0
	for round := range 9000 {
		c, start := someSetting(pick), pick(1001)
		m := someMem(c, pick)
		other := copied(m)
		var l []api.Poke
		for range pick(60) {
			l = append(l, poke(pick(2*c.Tickets), firstTicket(c)+2*pick(c.Tickets), someState(pick)))
		}
		x, want := New(c, start), number(c, start)
		steps, last := mem.Play(m, x, l, 100)
		wantSteps, _ := mem.Play(other, want, l, 100)
		if steps != wantSteps || !last || x.Ans() != want.ans || x.Word() != want.word || !slices.Equal(m.Log(), other.Log()) || !slices.Equal(m.Words(), other.Words()) {
			t.Fatalf("round %d, %+v, start %d: %d, %t, %v, word %d, by %v; want %d, %v, %d, %v", round, c, start, steps, last, x.Ans(), x.Word(), m.Log(), wantSteps, want.ans, want.word, other.Log())
		}
		if len(m.Log()) != steps {
			t.Fatalf("round %d: %d steps, %d accesses", round, steps, len(m.Log()))
		}
		if x.Ans() == full() {
			refused++
		}
		if slices.ContainsFunc(m.Log(), func(a api.Access) bool { return a.Kind == api.Cas && !a.Ok }) {
			missed++
		}
	}
	if refused < 200 || missed < 900 {
		t.Errorf("of 9000 only %d were refused, %d missed one", refused, missed)
	}
}

// P11.1: only the last Step tells true, and there is neither answer nor word ahead of it; behind it nothing is done, and true is told.
func TestStepsBehindTheLast(t *testing.T) {
	v := 1 << 32
	for _, f := range []struct {
		words [3]int
		steps int
		want  api.Ans
		word  int
	}{
		{[3]int{}, 2, had(1), v + busy},
		{[3]int{0, v + busy, 0}, 3, had(2), v + busy},
		{[3]int{3 * v, v + busy, v + live}, 4, had(0), 4*v + busy},
		{[3]int{v + ending, v + busy, v + live}, 3, full(), 0},
	} {
		c := set(3, 2, 3)
		m, x := laid(c, f.words[:]...), New(c, 1)
		for step := 1; step <= f.steps+8; step++ {
			if step <= f.steps && (x.Ans() != (api.Ans{}) || x.Word() != 0) {
				t.Errorf("%v: %v, word %d ahead of step %d", f.words, x.Ans(), x.Word(), step)
			}
			last := x.Step(m)
			if last != (step >= f.steps) || len(m.Log()) != min(step, f.steps) {
				t.Errorf("%v, step %d: %t, %d accesses", f.words, step, last, len(m.Log()))
			}
			// What the words are by then makes no difference to an answer.
			for k := range 3 {
				if last {
					m.Poke(t0+2*k, step*v)
				}
			}
		}
		if x.Ans() != f.want || x.Word() != f.word {
			t.Errorf("%v: %v, word %d", f.words, x.Ans(), x.Word())
		}
	}
}

// thread claims a ticket, so often as it may, from a start; one that it has had for a while it gives back, if it does.
type thread struct {
	start, often int
	back         bool
	on           *Machine
	has          []kept
}

// kept is a ticket that a thread has, and the word that it set.
type kept struct{ ticket, word int }

func (x *thread) ended() bool { return x.on == nil && x.often == 0 }

// step makes one access, unless all is ended: it gives back what it has, ahead of the next claim.
func (x *thread) step(c api.Conf, m *mem.Mem) {
	if x.ended() {
		return
	}
	if x.on == nil {
		if x.back && len(x.has) > 0 {
			k := x.has[0]
			m.Store(firstTicket(c)+2*k.ticket, stateWord(pack.Version(k.word)+1, free))
			x.has = nil
			return
		}
		x.on = New(c, x.start)
		x.often--
	}
	if !x.on.Step(m) {
		return
	}
	if x.on.Ans().Err == api.OK {
		x.has = append(x.has, kept{x.on.Ans().N, x.on.Word()})
	}
	x.on = nil
}

// apart checks that no two have one ticket, and that each one had is busy by the word that is told.
func apart(t *testing.T, c api.Conf, m *mem.Mem, l []*thread) {
	t.Helper()
	words, whose := m.Words(), map[int]int{}
	for i, x := range l {
		for _, k := range x.has {
			if other, is := whose[k.ticket]; is {
				t.Fatalf("%d and %d have ticket %d, behind %v", other, i, k.ticket, m.Log())
			}
			whose[k.ticket] = i
			if w := words[firstTicket(c)+2*k.ticket]; w != k.word || pack.Value(w) != busy {
				t.Fatalf("%d has ticket %d by %d, which is %d, behind %v", i, k.ticket, k.word, w, m.Log())
			}
		}
	}
}

// together has threads step by a row of turns, then one behind the other, and checks behind each step that no two have one ticket; in the end as many are busy as are had.
func together(t *testing.T, c api.Conf, l []*thread, turns []int) {
	t.Helper()
	m := plan.Fresh(c)
	step := func(x *thread) {
		x.step(c, m)
		apart(t, c, m, l)
	}
	for _, i := range turns {
		step(l[i])
	}
	had := 0
	for _, x := range l {
		for steps := 0; !x.ended(); steps++ {
			if step(x); steps > 1000 {
				t.Fatalf("no end, alone, behind %v", m.Log())
			}
		}
		had += len(x.has)
	}
	words, taken := m.Words(), 0
	for k := range c.Tickets {
		if pack.Value(words[firstTicket(c)+2*k]) != free {
			taken++
		}
	}
	if taken != had {
		t.Errorf("%d are had, %d are not free, behind %v", had, taken, m.Log())
	}
}

// allRows has do go through all rows of so many turns of each.
func allRows(left []int, ahead []int, do func([]int)) {
	ended := true
	for i := range left {
		if left[i] > 0 {
			ended = false
			left[i]--
			allRows(left, append(ahead, i), do)
			left[i]++
		}
	}
	if ended {
		do(ahead)
	}
}

// P11.2: two threads, and three, by all turns, from all starts.
func TestAFewTogether(t *testing.T) {
	for tickets := 1; tickets <= 3; tickets++ {
		c := set(1, 1, tickets)
		for start := range tickets {
			for _, back := range []bool{false, true} {
				allRows([]int{6, 6}, nil, func(turns []int) {
					together(t, c, []*thread{{often: 2, back: back}, {start: start, often: 2, back: back}}, turns)
				})
				allRows([]int{3, 3, 3}, nil, func(turns []int) {
					together(t, c, []*thread{{often: 1}, {start: start, often: 2, back: back}, {start: tickets, often: 1}}, turns)
				})
			}
		}
	}
}

// P11.2: many threads, by drawn turns.
func TestManyTogether(t *testing.T) {
	pick := drawer(7)
	for range 1000 {
		c := set(1+pick(3), oneOf(pick, 1, 2), 1+pick(api.MaxTickets))
		start, spread := pick(1001), pick(2)
		var l []*thread
		for i := range 2 + pick(api.MaxThreads-1) {
			l = append(l, &thread{start: min(start+spread*i, 1000), often: 1 + pick(4), back: pick(2) == 0})
		}
		var turns []int
		for range 60 {
			turns = append(turns, pick(len(l)))
		}
		together(t, c, l, turns)
	}
}

// P11.2: all threads find one ticket free ahead of any that keeps it; one has it.
func TestOneOfAll(t *testing.T) {
	for first := range api.MaxThreads {
		c := set(2, 2, 1)
		m := plan.Fresh(c)
		var l []*Machine
		for i := range api.MaxThreads {
			l = append(l, New(c, i))
			l[i].Step(m)
		}
		for i := range api.MaxThreads {
			x := l[(first+i)%api.MaxThreads]
			want := full()
			if i == 0 {
				want = had(0)
			}
			if last := x.Step(m); !last || x.Ans() != want || (x.Word() != 0) != (i == 0) {
				t.Errorf("the one %d behind %d: %t, %v, word %d", i, first, last, x.Ans(), x.Word())
			}
		}
	}
}

// P11.3: alone, all states of a few tickets, from all starts: the first one that is free, and a refusal just if none is.
func TestAlone(t *testing.T) {
	for tickets := 1; tickets <= 5; tickets++ {
		for states := range 1 << (2 * tickets) {
			for start := range tickets {
				c := set(1, 1, tickets)
				var words []int
				for k := range tickets {
					words = append(words, stateWord(10*k+1, states>>(2*k)&3))
				}
				m, x := laid(c, words...), New(c, start)
				want, word, most := full(), 0, tickets
				for i := tickets - 1; i >= 0; i-- {
					if k := (start + i) % tickets; pack.Value(words[k]) == free {
						want, word, most = had(k), stateWord(10*k+2, busy), i+2
					}
				}
				steps, last := mem.Play(m, x, nil, 99)
				if steps != most || !last || x.Ans() != want || x.Word() != word {
					t.Fatalf("%v, start %d: %d, %t, %v, word %d; want %d, %v, %d", words, start, steps, last, x.Ans(), x.Word(), most, want, word)
				}
			}
		}
	}
}

// P11.3: alone, whatever the words are.
func TestAloneAtAnyWords(t *testing.T) {
	pick := drawer(5)
	for range 4000 {
		c, start := someSetting(pick), pick(1001)
		m := someMem(c, pick)
		some := false
		for k := range c.Tickets {
			// Few are free, so that there are refusals.
			w := firstTicket(c) + 2*k
			if pick(8) > 0 {
				m.Poke(w, stateWord(pick(9), oneOf(pick, busy, live, ending)))
			}
			some = some || pack.Value(m.Words()[w]) == free
		}
		x := New(c, start)
		steps, last := mem.Play(m, x, nil, 99)
		if !last || steps > c.Tickets+1 || (x.Ans() == full()) == some || (x.Ans().Err == api.OK) != some || (x.Word() != 0) != some {
			t.Fatalf("%+v, start %d: %d steps, %t, %v, word %d, by %v", c, start, steps, last, x.Ans(), x.Word(), m.Log())
		}
	}
}

// P11.3: others have each ticket be free whenever it is looked at, and another word whenever it is to be kept; no more than two accesses for each.
func TestEndsWhateverOthersDo(t *testing.T) {
	for tickets := 1; tickets <= api.MaxTickets; tickets++ {
		for start := range tickets {
			c := set(1, 1, tickets)
			m, x := plan.Fresh(c), New(c, start)
			for steps := 1; steps <= 2*tickets; steps++ {
				for k := range tickets {
					m.Poke(firstTicket(c)+2*k, steps<<32)
				}
				if last := x.Step(m); last != (steps == 2*tickets) {
					t.Fatalf("start %d of %d tickets: %t behind step %d", start, tickets, last, steps)
				}
			}
			if x.Ans() != full() || x.Word() != 0 || len(m.Log()) != 2*tickets {
				t.Errorf("start %d of %d tickets: %v, word %d, by %v", start, tickets, x.Ans(), x.Word(), m.Log())
			}
		}
	}
}

// P3: machines stand apart, and what one does hangs on what it was given alone.
func TestMachinesStandApart(t *testing.T) {
	c := set(3, 2, 3)
	first, second := plan.Fresh(c), plan.Fresh(c)
	a, b, other := New(c, 1), New(c, 1), New(c, 2)
	for range 2 {
		a.Step(first)
		b.Step(second)
		other.Step(second)
	}
	if a.Ans() != had(1) || b.Ans() != had(1) || other.Ans() != had(2) || len(first.Log()) != 2 || len(second.Log()) != 4 {
		t.Errorf("%v, %v, %v, by %v, and by %v", a.Ans(), b.Ans(), other.Ans(), first.Log(), second.Log())
	}
	again := plan.Fresh(c)
	mem.Play(again, New(c, 1), nil, 9)
	if !slices.Equal(again.Log(), first.Log()) {
		t.Errorf("asked again: %v; the first time %v", again.Log(), first.Log())
	}
}

// P3: what is handed in stays as it is, its spare room too.
func TestSettingStays(t *testing.T) {
	c := set(3, 2, 5)
	m := plan.Fresh(c)
	parents, limits := append(make([]int, 0, 9), c.Parents...), append(make([]int, 0, 9), c.Limits...)
	c.Parents, c.Limits = parents, limits
	wasParents, wasLimits := slices.Clone(parents[:9]), slices.Clone(limits[:9])
	for start := range 9 {
		mem.Play(m, New(c, start), nil, 99)
	}
	if !slices.Equal(parents[:9], wasParents) || !slices.Equal(limits[:9], wasLimits) {
		t.Errorf("parents %v, limits %v; want %v, %v", parents[:9], limits[:9], wasParents, wasLimits)
	}
}

// Numbers of which nothing is said, and ordinary ones.
func anyNumbers() []int {
	return []int{math.MinInt, -1 << 40, -1000, -5, -1, 0, 1, 3, 9, 17, 1000, 1001, 1 << 20, 1 << 40, 1 << 62, math.MaxInt}
}

// P1: nothing is said of other starts, settings and words, but all calls end, and none panics.
func TestWrongInputsEnd(t *testing.T) {
	right := set(3, 2, 3)
	for _, a := range anyNumbers() {
		for _, b := range anyNumbers() {
			for _, m := range []*mem.Mem{nil, mem.New(0), mem.New(1), mem.New(31), plan.Fresh(right)} {
				for _, x := range []*Machine{New(right, a), New(api.Conf{Tickets: a}, b), New(api.Conf{Stripes: a, Tickets: b}, 3), New(set(3, 2, a), b)} {
					if steps, last := mem.Play(m, x, nil, 100); !last || steps > 2*api.MaxTickets {
						t.Errorf("%d, %d, %d words: %d steps, %t", a, b, m.Len(), steps, last)
					}
				}
			}
		}
	}
	for _, x := range []*Machine{nil, {}} {
		m := plan.Fresh(right)
		if !x.Step(m) || x.Ans() != (api.Ans{}) || x.Word() != 0 || len(m.Log()) != 0 {
			t.Error("a machine of nothing goes on, or answers")
		}
	}
}

// P1, and wrong inputs: from a start that may not be no word is altered that is no ticket's state.
func TestWrongStartsStayAtTickets(t *testing.T) {
	for _, start := range anyNumbers() {
		c := set(3, 2, 5)
		m := plan.Fresh(c)
		mem.Play(m, New(c, start), nil, 99)
		for _, a := range m.Log() {
			if k := a.W - firstTicket(c); k < 0 || k >= 2*c.Tickets || k%2 != 0 {
				t.Errorf("start %d: %+v", start, a)
			}
		}
	}
}
