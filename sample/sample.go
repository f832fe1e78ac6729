// Package sample has what tests of the upper layers are made of: settings, rows of draws, calls, what others may do meanwhile, and what words and accesses say of a node. No layer calls it.
package sample

import (
	"iter"
	"slices"
	"strconv"

	"breadline/api"
	"breadline/draw"
	"breadline/mem"
	"breadline/pack"
	"breadline/plan"
	"breadline/state"
	"breadline/tree"
)

// mostSteps are more than what some machines of one thread take, alone.
const mostSteps = 4000

// MaxVersion is the last version, behind which stands 0.
const MaxVersion = 1<<32 - 1

// Few is a setting of two stripes, and tenants 0 (1 (2), 3).
func Few() api.Conf {
	return api.Conf{Threads: 2, Stripes: 2, Gate: 4, Lease: 4, Retry: 2, Tickets: 3, Parents: []int{-1, 0, 1, 0}, Limits: []int{20, 10, 8, 5}}
}

// Chain is a setting of tenants, each the child of the one ahead of it.
func Chain(nodes, stripes, tickets int) api.Conf {
	c := api.Conf{Threads: 2, Stripes: stripes, Gate: 8, Lease: 4, Retry: 2, Tickets: tickets}
	for node := range nodes {
		c.Parents = append(c.Parents, node-1)
		c.Limits = append(c.Limits, 100-node)
	}
	return c
}

// The words of a node's counter behind the global one, counted out.
func Begun(c api.Conf, node int) int          { return plan.Counter(c, node) + 1 }
func Done(c api.Conf, node int) int           { return plan.Counter(c, node) + 2 }
func Live(c api.Conf, node int) int           { return plan.Counter(c, node) + 3 }
func Stripe(c api.Conf, node, stripe int) int { return plan.Counter(c, node) + 4 + stripe }

// Word is the one of a version and a value, such as may be.
func Word(version, value int) int {
	w, _ := pack.Word(version, value)
	return w
}

// Accesses, as a log tells them, of word w.
func Load(w, a int) api.Access       { return api.Access{Kind: api.Load, W: w, A: a} }
func Plus(w, a, b int) api.Access    { return api.Access{Kind: api.Add, W: w, A: a, B: b} }
func Swapped(w, a, b int) api.Access { return api.Access{Kind: api.Cas, W: w, A: a, B: b, Ok: true} }
func Failed(w, a, b int) api.Access  { return api.Access{Kind: api.Cas, W: w, A: a, B: b} }
func Stored(w, a int) api.Access     { return api.Access{Kind: api.Store, W: w, A: a} }

// Poke is what another thread does behind so many accesses.
func Poke(at, w, x int) api.Poke { return api.Poke{At: at, W: w, X: x} }

// Pick picks one of so many, 0 to many - 1.
type Pick func(many int) int

// Drawer picks by a thread's draws, always the same row.
func Drawer(thread int) Pick {
	x := draw.Begin(thread)
	return func(many int) int {
		x = draw.Next(x)
		return draw.Pick(x, many)
	}
}

// OneOf is one of those.
func (pick Pick) OneOf(l ...int) int { return l[pick(len(l))] }

// Setting has a tree of any form, and numbers near what is asked, so that all ways are gone.
func (pick Pick) Setting() api.Conf {
	c := api.Conf{
		Threads: api.MaxThreads, Stripes: pick.OneOf(1, 2, 4, 8), Gate: pick.OneOf(1, 2, 5, 20, api.MaxGate), Lease: pick.OneOf(0, 1, 4, 9, api.MaxAmount),
		Retry: 1, Tickets: 1 + pick(api.MaxTickets),
	}
	for node := range 1 + pick(api.MaxNodes) {
		c.Parents = append(c.Parents, pick(max(node, 1))-max(1-node, 0))
		c.Limits = append(c.Limits, pick.OneOf(pick(9), 30, 200, api.MaxLimit))
	}
	return c
}

// Leaf is a node that is nobody's parent.
func (pick Pick) Leaf(c api.Conf) int {
	var l []int
	for node := range c.Parents {
		if tree.Leaf(c, node) {
			l = append(l, node)
		}
	}
	return pick.OneOf(l...)
}

// Amount is mostly a small one.
func (pick Pick) Amount() int {
	return pick.OneOf(1, 1, 2, 3, 1+pick(9), 1+pick(9), api.MaxAmount)
}

// Version is one of few, so that like ones come often, or near the last one.
func (pick Pick) Version() int { return pick.OneOf(pick(9), 1<<31-1, MaxVersion-1, MaxVersion) }

// State is that of a ticket.
func (pick Pick) State() int {
	return pick.OneOf(int(state.Free), int(state.Free), int(state.Busy), int(state.Live), int(state.Ending))
}

// Disturb is what another thread may do, a word and what it is then: a pool's or a counter's is another one, or a ticket, but for that which is kept (-1: none is), goes on.
func (pick Pick) Disturb(c api.Conf, kept int) (int, int) {
	node, stripe := pick(len(c.Parents)), pick(c.Stripes)
	switch pick(8) {
	case 0, 1:
		return plan.Avail(c, node), pick.OneOf(0, pick(6), 10+pick(40), api.MaxLimit)
	case 2, 3:
		return plan.Lease(c, node, stripe), pick(c.Lease + 1)
	case 4:
		return Live(c, node), pick.powerOfTwo(c.Stripes)
	case 5, 6:
		return Stripe(c, node, stripe), Word(pick(50), pick(2*c.Gate-1)-c.Gate+1)
	}
	k := pick(c.Tickets)
	if k == kept {
		return plan.Counter(c, node), pick(9)
	}
	return plan.Ticket(c, k), Word(pick.Version(), pick.State())
}

// powerOfTwo is one that is at most most.
func (pick Pick) powerOfTwo(most int) int {
	var l []int
	for n := 1; n <= most; n *= 2 {
		l = append(l, n)
	}
	return pick.OneOf(l...)
}

// Call is one of any kind, mostly such as may be; what it releases is one of those handles, if there are any.
func (pick Pick) Call(c api.Conf, handles ...int) api.Call {
	if pick(20) == 0 {
		return api.Call{Kind: pick(9) - 1, Node: pick.OneOf(Numbers()...), N: pick.OneOf(Numbers()...)}
	}
	x := api.Call{Kind: pick.OneOf(api.Admit, api.Admit, api.Release, api.Raise, api.Lower, api.Usage, api.Peek), Node: pick(len(c.Parents)), N: pick.Amount()}
	switch {
	case x.Kind == api.Admit && pick(9) > 0:
		x.Node = pick.Leaf(c)
	case x.Kind == api.Release && len(handles) > 0:
		x.N = pick.OneOf(handles...)
	}
	return x
}

// Likely are handles that a ticket's first admissions may tell: the first one's is of version 2, and a refusal, or a release, goes on by two.
func Likely(c api.Conf) []int {
	var l []int
	for _, version := range []int{2, 4, 6} {
		for k := range c.Tickets {
			l = append(l, version*api.MaxTickets+k)
		}
	}
	return l
}

// Script has rows of calls, for some or all threads, each of at most so many; what they release is mostly what was likely admitted.
func (pick Pick) Script(c api.Conf, most int) [][]api.Call {
	var rows [][]api.Call
	for range pick.OneOf(pick(c.Threads+1), c.Threads, c.Threads) {
		var row []api.Call
		for range pick(most + 1) {
			row = append(row, pick.Call(c, Likely(c)...))
		}
		rows = append(rows, row)
	}
	return rows
}

// Turns are those of so many threads, each of which has some one behind the other.
func (pick Pick) Turns(threads int) []int {
	var turns []int
	for range 300 {
		turns = append(turns, slices.Repeat([]int{pick(threads)}, 1+pick(3))...)
	}
	return turns
}

// Numbers are some of which often nothing is said, and ordinary ones.
func Numbers() []int {
	return []int{-1 << 63, -1 << 40, -1000, -5, -1, 0, 1, 3, 9, 17, 1000, 1001, 1 << 20, 1 << 40, 1 << 62, 1<<63 - 1}
}

// LaidOut is a Mem of those words, without an access.
func LaidOut(words []int) *mem.Mem {
	m := mem.New(len(words))
	for i, x := range words {
		m.Poke(i, x)
	}
	return m
}

// Spacious is the same list, with spare room, in which something stands.
func Spacious(l []int) []int { return append(slices.Clone(l), 7, 7, 7)[:len(l)] }

// Moved is how much a row of accesses added to what is left of a node, and to its counter.
func Moved(c api.Conf, log []api.Access, node int) (int, int) {
	left, counted := 0, 0
	for _, a := range log {
		by := 0
		switch {
		case a.Kind == api.Add:
			by = a.A
		case a.Kind == api.Cas && a.Ok:
			by = a.B - a.A
		}
		switch {
		case plan.Avail(c, node) <= a.W && a.W < plan.Counter(c, node):
			left += by
		case a.W == plan.Counter(c, node):
			counted += by
		case Stripe(c, node, 0) <= a.W && a.W < Stripe(c, node, c.Stripes) && a.Ok:
			counted += pack.Value(a.B) - pack.Value(a.A)
		}
	}
	return left, counted
}

// Laid is what a node's words say.
type Laid struct{ Limit, Left, Sum, OnTheWay int }

// Look is what is laid down of a node.
func Look(c api.Conf, words []int, node int) Laid {
	l := Laid{Limit: words[plan.Limit(c, node)], Left: words[plan.Avail(c, node)], Sum: words[plan.Counter(c, node)]}
	for stripe := range c.Stripes {
		l.Left += words[plan.Lease(c, node, stripe)]
		l.Sum += pack.Value(words[Stripe(c, node, stripe)])
	}
	l.OnTheWay = words[Begun(c, node)] - words[Done(c, node)]
	return l
}

// Tickets are those whose state is one of these, rising.
func Tickets(c api.Conf, words []int, states ...state.State) []int {
	var l []int
	for k := range c.Tickets {
		if slices.Contains(states, state.State(pack.Value(words[plan.Ticket(c, k)]))) {
			l = append(l, k)
		}
	}
	return l
}

// Used is how much live tickets have of each node.
func Used(c api.Conf, words []int) []int {
	l := make([]int, len(c.Parents))
	for _, k := range Tickets(c, words, state.Live) {
		body := words[plan.Ticket(c, k)+1]
		for _, node := range tree.Path(c, body>>21) {
			l[node] += body & (1<<21 - 1)
		}
	}
	return l
}

// TooMuch is the first node of which live tickets have more than its limit has beside what is left, or less than nothing is available, or a lease holds what it may not; -1, if there is none.
func TooMuch(c api.Conf, words []int) int {
	for node, n := range Used(c, words) {
		l := Look(c, words, node)
		if words[plan.Avail(c, node)] < 0 || n > l.Limit-l.Left {
			return node
		}
		for stripe := range c.Stripes {
			if lease := words[plan.Lease(c, node, stripe)]; lease < 0 || lease > c.Lease {
				return node
			}
		}
	}
	return -1
}

// Amiss is the first node of which, at rest, something is lost, made, or still on its way; -1, if there is none.
func Amiss(c api.Conf, words []int) int {
	for node, n := range Used(c, words) {
		if l := Look(c, words, node); n != l.Limit-l.Left || n != l.Sum || l.OnTheWay != 0 {
			return node
		}
	}
	return -1
}

// Handles are those of all tickets that are live, rising.
func Handles(c api.Conf, words []int) []int {
	var l []int
	for _, k := range Tickets(c, words, state.Live) {
		l = append(l, pack.Version(words[plan.Ticket(c, k)])*api.MaxTickets+k)
	}
	slices.Sort(l)
	return l
}

// Thread has machines step, one behind the other, each made when its turn comes.
type Thread struct {
	Left []func() mem.Machine
	Ans  []api.Ans // of those that are at their ends
	on   mem.Machine
}

// Ended tells whether no machine is on, or left.
func (x *Thread) Ended() bool { return x.on == nil && len(x.Left) == 0 }

// Step makes one access, if it is not ended.
func (x *Thread) Step(m *mem.Mem) {
	if x.Ended() {
		return
	}
	if x.on == nil {
		x.on, x.Left = x.Left[0](), x.Left[1:]
	}
	if x.on.Step(m) {
		x.Ans, x.on = append(x.Ans, x.on.Ans()), nil
	}
}

// Tally adds how often threads' answers had each error.
func Tally(times map[api.Errno]int, l []*Thread) {
	for _, x := range l {
		for _, ans := range x.Ans {
			times[ans.Err]++
		}
	}
}

// Together has threads step by a row of turns, and then each till it is ended, and tells what is wrong: too much behind a step, no end, or something amiss behind all; an empty text, if nothing is.
func Together(c api.Conf, m *mem.Mem, l []*Thread, turns []int) string {
	for i := range order(l, turns) {
		l[i].Step(m)
		if node := TooMuch(c, m.Words()); node >= 0 {
			return "too much of node " + strconv.Itoa(node)
		}
	}
	return atRest(c, m.Words(), l)
}

// order tells all turns, and then each thread's place till it is ended, or has stepped too often.
func order(l []*Thread, turns []int) iter.Seq[int] {
	return func(yield func(int) bool) {
		for _, i := range turns {
			if !yield(i) {
				return
			}
		}
		for i, x := range l {
			for steps := 0; steps < mostSteps && !x.Ended(); steps++ {
				if !yield(i) {
					return
				}
			}
		}
	}
}

func atRest(c api.Conf, words []int, l []*Thread) string {
	for i, x := range l {
		if !x.Ended() {
			return "no end of thread " + strconv.Itoa(i) + ", alone"
		}
	}
	if node := Amiss(c, words); node >= 0 {
		return "something amiss at node " + strconv.Itoa(node)
	}
	if l := Tickets(c, words, state.Busy, state.Ending); len(l) > 0 {
		return "neither free nor live is ticket " + strconv.Itoa(l[0])
	}
	return ""
}
