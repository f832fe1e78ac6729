package usage

import (
	"math"
	"slices"
	"testing"

	"breadline/add"
	"breadline/admit"
	"breadline/api"
	"breadline/mem"
	"breadline/plan"
	"breadline/release"
	"breadline/sample"
	"breadline/shift"
	"breadline/snap"
)

// The states' numbers, as the chapters say them.
const (
	free   = 0
	busy   = 1
	live   = 2
	ending = 3
)

// v is one version of a word.
const v = 1 << 32

// In the few's setting ticket 0 has words 40 and 41, and so on.
const firstTicket = 40

// body is a ticket's body word, whatever its numbers are.
func body(node, n int) int { return node<<21 + n }

// fewWith is the few's setting, and its fresh words but for some, each a word and what it is.
func fewWith(pairs ...int) (api.Conf, []int) {
	c := sample.Few()
	w := plan.Fresh(c).Words()
	for i := 0; i < len(pairs); i += 2 {
		w[pairs[i]] = pairs[i+1]
	}
	return c, w
}

func checkLive(t *testing.T, c api.Conf, w []int, ticket int, node, n int, is bool) {
	t.Helper()
	if gotNode, gotN, gotIs := Live(c, w, ticket); gotNode != node || gotN != n || gotIs != is {
		t.Errorf("ticket %d of %v: %d, %d, %t; want %d, %d, %t", ticket, w, gotNode, gotN, gotIs, node, n, is)
	}
}

// P14.1, of N1: which state words are Live, by a body that tells a tenant and an amount.
func TestLiveByState(t *testing.T) {
	for _, f := range []struct {
		state int
		is    bool
	}{
		{live, true}, {2*v + live, true}, {sample.Word(sample.MaxVersion, live), true}, {sample.Word(1<<31, live), true},
		{free, false}, {4*v + free, false}, {busy, false}, {3*v + busy, false}, {ending, false}, {3*v + ending, false},
		{4 + live, false}, {1<<31 + live, false}, {sample.Word(2, -2), false}, {-1, false}, {-live, false},
		{math.MinInt, false}, {math.MaxInt, false}, {2 * v, false},
	} {
		c, w := fewWith(firstTicket+2, f.state, firstTicket+3, body(3, 2))
		node, n := 0, 0
		if f.is {
			node, n = 3, 2
		}
		checkLive(t, c, w, 1, node, n, f.is)
		checkLive(t, c, w, 0, 0, 0, false)
		checkLive(t, c, w, 2, 0, 0, false)
	}
}

// P14.1, of N1: which bodies tell a tenant that there is, and an amount, by a state of Live.
func TestLiveByBody(t *testing.T) {
	for _, f := range []struct {
		nodes   int // of the setting
		body    int
		node, n int
		is      bool
	}{
		{4, body(0, 1), 0, 1, true},
		{4, body(1, 7), 1, 7, true}, // which has a child
		{4, body(3, 1), 3, 1, true},
		{4, body(3, api.MaxAmount), 3, api.MaxAmount, true},
		{12, body(11, api.MaxAmount), 11, api.MaxAmount, true},
		{1, body(0, 5), 0, 5, true},
		{4, body(4, 1), 0, 0, false},
		{4, body(5, 1), 0, 0, false},
		{4, body(11, 9), 0, 0, false},
		{1, body(1, 5), 0, 0, false},
		{11, body(11, 5), 0, 0, false},
		{12, body(12, 5), 0, 0, false},
		{4, 0, 0, 0, false},
		{4, body(3, 0), 0, 0, false},
		{4, body(3, api.MaxAmount+1), 0, 0, false},
		{4, body(3, 1<<21-1), 0, 0, false},
		{4, -1, 0, 0, false},
		{4, body(-1, 3), 0, 0, false},
		{4, body(1<<32, 3), 0, 0, false},
		{4, math.MinInt, 0, 0, false},
		{4, math.MinInt + 3, 0, 0, false},
		{4, math.MaxInt, 0, 0, false},
	} {
		c := sample.Chain(f.nodes, 1, 2)
		w := plan.Fresh(c).Words()
		w[8*f.nodes+2], w[8*f.nodes+3] = 2*v+live, f.body
		checkLive(t, c, w, 1, f.node, f.n, f.is)
	}
}

// P14.1, of N1: the last of as many tickets as may be, by the words of its own alone.
func TestLiveOfEachTicket(t *testing.T) {
	c := sample.Chain(api.MaxNodes, api.MaxStripes, api.MaxTickets)
	fresh := plan.Fresh(c).Words()
	for k := range api.MaxTickets {
		w := slices.Clone(fresh)
		// A node has 22 words by 8 stripes.
		w[12*22+2*k], w[12*22+2*k+1] = live, body(11, k+1)
		for other := range api.MaxTickets {
			if other == k {
				checkLive(t, c, w, other, 11, k+1, true)
			} else {
				checkLive(t, c, w, other, 0, 0, false)
			}
		}
	}
}

// The example, and of each other setting alike.
func TestFreshWords(t *testing.T) {
	pick := sample.Drawer(31)
	for range 500 {
		c := pick.Setting()
		w := plan.Fresh(c).Words()
		for node := range c.Parents {
			if used, held := Used(c, w, node), Held(c, w, node); used != 0 || held != 0 {
				t.Fatalf("%+v, node %d: %d are used, %d held", c, node, used, held)
			}
		}
		for k := range c.Tickets {
			checkLive(t, c, w, k, 0, 0, false)
		}
	}
}

// P14.1, of N2: what each node of the few uses, and what is held of it, written out.
func TestUsedAndHeld(t *testing.T) {
	for _, f := range []struct {
		name       string
		pairs      []int
		used, held [4]int
	}{
		{"one ticket", []int{40, live, 41, body(3, 2)},
			[4]int{2, 0, 0, 2}, [4]int{-2, 0, 0, -2}},
		{"a path of three", []int{44, live, 45, body(2, 5)},
			[4]int{5, 5, 5, 0}, [4]int{-5, -5, -5, 0}},
		{"three tickets, two of one tenant", []int{40, live, 41, body(2, 4), 42, 2*v + live, 43, body(3, 2), 44, live, 45, body(2, 1)},
			[4]int{7, 5, 5, 2}, [4]int{-7, -5, -5, -2}},
		{"of tenants who have children", []int{40, live, 41, body(0, 1), 42, live, 43, body(1, 10), 44, live, 45, body(2, 100)},
			[4]int{111, 110, 100, 0}, [4]int{-111, -110, -100, 0}},
		{"only those that are live", []int{40, busy, 41, body(2, 4), 42, ending, 43, body(3, 2), 44, live, 45, body(4, 1)},
			[4]int{}, [4]int{}},
		{"less is available", []int{1, 13, 31, 0},
			[4]int{}, [4]int{7, 0, 0, 5}},
		{"more is leased", []int{2, 3, 3, 1, 12, 2, 23, 4},
			[4]int{}, [4]int{-4, -2, -4, 0}},
		{"limits are others", []int{0, 25, 10, 7, 30, 0},
			[4]int{}, [4]int{5, -3, 0, -5}},
		{"all of these", []int{0, 25, 1, 13, 2, 3, 3, 1, 40, live, 41, body(3, 2), 30, 6, 31, 1, 32, 1, 33, 1},
			[4]int{2, 0, 0, 2}, [4]int{6, 0, 0, 1}},
		{"counters are nothing to it", []int{4, 9, 5, 9, 6, 9, 7, 2, 8, 9, 9, 9, 34, 7, 35, 7, 36, 7, 37, 7, 38, 7, 39, 7},
			[4]int{}, [4]int{}},
		{"the greatest amounts", []int{40, live, 41, body(2, 1<<20), 42, live, 43, body(2, 1<<20), 44, live, 45, body(2, 1<<20)},
			[4]int{3 << 20, 3 << 20, 3 << 20, 0}, [4]int{-3 << 20, -3 << 20, -3 << 20, 0}},
		{"sums go round", []int{0, math.MinInt, 1, 1, 10, math.MaxInt, 11, -1, 22, math.MaxInt, 23, 1, 30, math.MinInt, 31, 0, 40, live, 41, body(3, 1)},
			[4]int{1, 0, 0, 1}, [4]int{math.MaxInt - 1, math.MinInt, math.MinInt, math.MaxInt}},
	} {
		c, w := fewWith(f.pairs...)
		for node := range c.Parents {
			if used, held := Used(c, w, node), Held(c, w, node); used != f.used[node] || held != f.held[node] {
				t.Errorf("%s: node %d uses %d, %d are held; want %d, %d", f.name, node, used, held, f.used[node], f.held[node])
			}
		}
	}
}

// P14.1, of N2: behind each access of an admission, and of the release of it, what is used and held of both nodes.
func TestHeldOnItsWay(t *testing.T) {
	c := sample.Few()
	m := plan.Fresh(c)
	// What is used, and held, of node 3, and of node 0.
	type row [4]int
	same := func(r row, times int) []row { return slices.Repeat([]row{r}, times) }
	behind := func(x mem.Machine, rows ...[]row) {
		t.Helper()
		for step, want := range slices.Concat(rows...) {
			x.Step(m)
			w := m.Words()
			if got := (row{Used(c, w, 3), Held(c, w, 3), Used(c, w, 0), Held(c, w, 0)}); got != want {
				t.Errorf("step %d: %v; want %v, behind %v", step+1, got, want, m.Log())
			}
		}
	}
	behind(admit.New(c, 3, 2, 0),
		// The ticket, the lease, and what is available.
		same(row{}, 4),
		// 2 are taken, and 2 more, which are leased, of each node; then the body.
		same(row{0, 4, 0, 0}, 2), same(row{0, 2, 0, 0}, 3),
		same(row{0, 2, 0, 4}, 2), same(row{0, 2, 0, 2}, 2),
		// It is live, and counted.
		same(row{2, 0, 2, 0}, 7),
	)
	behind(release.New(c, 2*16, 1),
		[]row{{2, 0, 2, 0}}, same(row{0, 2, 0, 2}, 2),
		[]row{{0, 0, 0, 2}}, same(row{}, 8),
	)
}

// anyWord is one of which it is not said that a machine would lay it.
func anyWord(pick sample.Pick) int {
	return pick.OneOf(pick(30), pick(30)-40, math.MinInt, math.MaxInt, sample.Word(pick.Version(), pick.State()))
}

// anyWords has tickets that are mostly live, of tenants that mostly there are.
func anyWords(pick sample.Pick, c api.Conf) []int {
	var w []int
	for range plan.Size(c) {
		w = append(w, anyWord(pick))
	}
	for k := range c.Tickets {
		at := plan.Ticket(c, k)
		if pick(4) > 0 {
			w[at] = sample.Word(pick.Version(), live)
		}
		if pick(5) > 0 {
			w[at+1] = body(pick(len(c.Parents)+1), pick.OneOf(pick.Amount(), pick.Amount(), pick.Amount(), 0, api.MaxAmount+1))
		}
	}
	return w
}

// byHand reads words as the chapters count them out.
type byHand struct {
	c api.Conf
	w []int
}

// from is where a node's words begin.
func (b byHand) from(node int) int { return node * (6 + 2*b.c.Stripes) }

func (b byHand) live(k int) (int, int, bool) {
	at := b.from(len(b.c.Parents)) + 2*k
	node, n := b.w[at+1]>>21, b.w[at+1]&(1<<21-1)
	if int32(b.w[at]) != live || node < 0 || node >= len(b.c.Parents) || n < 1 || n > 1<<20 {
		return 0, 0, false
	}
	return node, n, true
}

func (b byHand) used(node int) int {
	sum := 0
	for k := range b.c.Tickets {
		at, n, is := b.live(k)
		for is && at > node {
			at = b.c.Parents[at]
		}
		if is && at == node {
			sum += n
		}
	}
	return sum
}

func (b byHand) held(node int) int {
	held := b.w[b.from(node)] - b.used(node)
	for _, x := range b.w[b.from(node)+1 : b.from(node)+2+b.c.Stripes] {
		held -= x
	}
	return held
}

// P14.1, of N1 and N2: of whatever words, in settings of any form.
func TestAsTheChapterSays(t *testing.T) {
	pick := sample.Drawer(32)
	lives, all, used := 0, 0, 0
	for range 3000 {
		c := pick.Setting()
		b := byHand{c, anyWords(pick, c)}
		for k := range c.Tickets {
			node, n, is := b.live(k)
			checkLive(t, c, b.w, k, node, n, is)
			all++
			if is {
				lives++
			}
		}
		for node := range c.Parents {
			if got, want := Used(c, b.w, node), b.used(node); got != want {
				t.Fatalf("%+v: node %d uses %d; want %d, by %v", c, node, got, want, b.w)
			}
			if got, want := Held(c, b.w, node), b.held(node); got != want {
				t.Fatalf("%+v: %d are held of node %d; want %d, by %v", c, got, node, want, b.w)
			}
			if b.used(node) > 0 {
				used++
			}
		}
	}
	if lives < all/4 || lives > all*3/4 || used < 3000 {
		t.Errorf("of %d tickets %d are live, %d nodes use something", all, lives, used)
	}
}

// P14.2: of whatever words, what a node uses is what its children use, and its own tickets.
func TestSums(t *testing.T) {
	pick := sample.Drawer(33)
	parents := 0 // such as have children who use something, and tickets of their own
	for range 3000 {
		c := pick.Setting()
		w := anyWords(pick, c)
		own, below := make([]int, len(c.Parents)), make([]int, len(c.Parents))
		for k := range c.Tickets {
			if node, n, is := Live(c, w, k); is {
				own[node] += n
			}
		}
		for node, parent := range c.Parents {
			if parent >= 0 {
				below[parent] += Used(c, w, node)
			}
		}
		for node := range c.Parents {
			if got := Used(c, w, node); got != own[node]+below[node] {
				t.Fatalf("%+v: node %d uses %d; its children %d, its own tickets %d, by %v", c, node, got, below[node], own[node], w)
			}
			if own[node] > 0 && below[node] > 0 {
				parents++
			}
		}
	}
	if parents < 1000 {
		t.Errorf("only %d nodes have both", parents)
	}
}

// loads are those of words as they are.
func loads(w []int, words ...int) []api.Access {
	var l []api.Access
	for _, i := range words {
		l = append(l, sample.Load(i, w[i]))
	}
	return l
}

// P14.1, of N3: which words a count loads, and how often it is tried, written out for the few's nodes 0 and 2.
func TestCounted(t *testing.T) {
	for _, f := range []struct {
		name  string
		node  int
		pairs []int
		words []int
		want  api.Ans
	}{
		{"fresh words", 0, nil, []int{5, 6, 4, 8, 9, 5, 8, 9}, api.Ans{Exact: true}},
		{"both stripes, and the global word", 0, []int{4, 10, 5, 3, 6, 3, 8, v + 3, 9, sample.Word(7, -1)}, []int{5, 6, 4, 8, 9, 5, 8, 9}, api.Ans{N: 12, Exact: true}},
		{"more is begun than is done, so it is tried again", 2, []int{24, 6, 25, 2, 26, 1, 28, v + 3}, []int{25, 26, 24, 28, 29, 25, 28, 29, 25, 26, 24, 28, 29, 25, 28, 29}, api.Ans{N: 6}},
		{"what live tickets have is nothing to it", 2, []int{28, v + 3, 40, live, 41, body(2, 5)}, []int{25, 26, 24, 28, 29, 25, 28, 29}, api.Ans{N: 3, Exact: true}},
	} {
		c, w := fewWith(f.pairs...)
		m := sample.LaidOut(w)
		x := Count(c, f.node)
		if steps, last := mem.Play(m, x, nil, 99); steps != len(f.words) || !last || x.Ans() != f.want {
			t.Errorf("%s: %d steps, %t, %+v; want %d, %+v", f.name, steps, last, x.Ans(), len(f.words), f.want)
		}
		if want := loads(w, f.words...); !slices.Equal(m.Log(), want) {
			t.Errorf("%s: %v; want %v", f.name, m.Log(), want)
		}
	}
}

// P14.1, of N3: a peek loads a node's global word, and nothing else.
func TestPeeked(t *testing.T) {
	c, w := fewWith(4, 11, 14, -12, 24, math.MinInt, 34, 14, 9, v+3)
	for node, want := range []struct{ word, n int }{{4, 11}, {14, -12}, {24, math.MinInt}, {34, 14}} {
		m, x := sample.LaidOut(w), Peek(c, node)
		if steps, last := mem.Play(m, x, nil, 99); steps != 1 || !last || x.Ans() != (api.Ans{N: want.n}) || !slices.Equal(m.Log(), loads(w, want.word)) {
			t.Errorf("node %d: %d steps, %t, %+v, by %v", node, steps, last, x.Ans(), m.Log())
		}
	}
}

// P14.1, of N3: among others, in settings of any form, counts and peeks are those of layer 7, of the words that layer 5 counts out.
func TestAsLayer7(t *testing.T) {
	pick := sample.Drawer(34)
	exact, tries := 0, map[int]int{}
	for range 3000 {
		c := pick.Setting()
		c.Retry = 1 + pick(api.MaxRetry)
		node := pick(len(c.Parents))
		base := byHand{c: c}.from(node) + 2 + c.Stripes
		first := plan.Fresh(c)
		for range 20 {
			first.Poke(pick.Disturb(c, -1))
		}
		first.Poke(base+1, pick(2))
		var pokes []api.Poke
		for range pick(12) {
			pokes = append(pokes, sample.Poke(pick(50), base+1+pick(2), pick(2)), sample.Poke(pick(50), base+4+pick(c.Stripes), pick(c.Gate)))
		}
		second, third := sample.LaidOut(first.Words()), sample.LaidOut(first.Words())
		x, y := Count(c, node), snap.Count(base, c.Stripes, c.Retry)
		steps, last := mem.Play(first, x, pokes, 999)
		mem.Play(second, y, pokes, 999)
		if !last || x.Ans() != y.Ans() || !slices.Equal(first.Log(), second.Log()) {
			t.Fatalf("%+v, node %d: %+v, by %v; want %+v, by %v", c, node, x.Ans(), first.Log(), y.Ans(), second.Log())
		}
		z := Peek(c, node)
		if mem.Play(third, z, nil, 9); !slices.Equal(third.Log(), loads(third.Words(), base)) {
			t.Fatalf("%+v, node %d: %v", c, node, third.Log())
		}
		tries[steps/(4+2*c.Stripes)]++
		if x.Ans().Exact {
			exact++
		}
	}
	if exact < 500 || exact > 2500 || len(tries) != api.MaxRetry {
		t.Errorf("of 3000 %d are exact, by so many tries: %v", exact, tries)
	}
}

// asked is what a thread does when its turn comes: it admits, releases what is live then, or moves a limit.
func asked(c api.Conf, m *mem.Mem, pick sample.Pick, number int) func() mem.Machine {
	node, leaf, n, kind := pick(len(c.Parents)), pick.Leaf(c), 1+pick(12), pick(12)
	return func() mem.Machine {
		handles := sample.Handles(c, m.Words())
		switch {
		case kind == 0:
			return shift.Raise(c, node, n)
		case kind == 1:
			return shift.Lower(c, node, n)
		case kind < 6 && len(handles) > 0:
			return release.New(c, handles[(node+n)%len(handles)], number)
		}
		return admit.New(c, leaf, n, number)
	}
}

// checkQuiet checks all that P14.3 says of words at rest, by answers that are counted with machines, too.
func checkQuiet(t *testing.T, c api.Conf, m *mem.Mem) {
	t.Helper()
	w := m.Words()
	for node, want := range sample.Used(c, w) {
		used, held := Used(c, w, node), Held(c, w, node)
		if sum := add.Sum(m, plan.Counter(c, node), c.Stripes); used != want || held != 0 || sum != want {
			t.Fatalf("%+v: node %d uses %d, its counter's sum is %d, %d are held; want %d, behind %v", c, node, used, sum, held, want, m.Log())
		}
		x := Count(c, node)
		if steps, last := mem.Play(m, x, nil, 99); steps != 4+2*c.Stripes || !last || x.Ans() != (api.Ans{N: used, Exact: true}) {
			t.Fatalf("%+v: node %d, %d steps, %t, %+v; want %d", c, node, steps, last, x.Ans(), used)
		}
	}
}

// P14.3: one machine behind the other; it is quiet behind each of them.
func TestQuietOneByOne(t *testing.T) {
	pick := sample.Drawer(35)
	times := map[api.Errno]int{}
	for range 300 {
		c := pick.Setting()
		m := plan.Fresh(c)
		for range 30 {
			x := asked(c, m, pick, pick(1001))()
			if _, last := mem.Play(m, x, nil, 4000); !last {
				t.Fatalf("%+v: no end, by %v", c, m.Log())
			}
			times[x.Ans().Err]++
			checkQuiet(t, c, m)
		}
	}
	if times[api.OK] < 3000 || times[api.ErrOver] < 500 || times[api.ErrFull] < 100 {
		t.Errorf("of 9000 there were %v", times)
	}
}

// P14.3: many threads, by drawn turns; it is quiet when all are at their ends.
func TestQuietBehindMany(t *testing.T) {
	pick := sample.Drawer(36)
	times, global := map[api.Errno]int{}, 0
	for range 400 {
		c := pick.Setting()
		for node := range c.Limits {
			c.Limits[node] = 20 + pick(100)
		}
		m := plan.Fresh(c)
		var l []*sample.Thread
		for number := range 2 + pick(api.MaxThreads-1) {
			x := &sample.Thread{}
			for range 1 + pick(8) {
				x.Left = append(x.Left, asked(c, m, pick, number))
			}
			l = append(l, x)
		}
		if wrong := sample.Together(c, m, l, pick.Turns(len(l))); wrong != "" {
			t.Fatalf("%+v: %s, behind %v", c, wrong, m.Log())
		}
		sample.Tally(times, l)
		if Used(c, m.Words(), 0) != m.Words()[plan.Counter(c, 0)] {
			global++
		}
		checkQuiet(t, c, m)
	}
	if times[api.OK] < 3000 || times[api.ErrOver] < 300 || times[api.ErrFull] < 100 || times[api.ErrTicket] < 10 || global < 100 {
		t.Errorf("there were %v, and %d global words that are not what is used", times, global)
	}
}

// P14.3 needs their ends: where a machine is stopped behind the first of its accesses that alters a pool, something is held.
func TestNotQuiet(t *testing.T) {
	c := sample.Few()
	m := plan.Fresh(c)
	x := admit.New(c, 3, 2, 0)
	for Held(c, m.Words(), 3) == 0 {
		if x.Step(m) {
			t.Fatalf("nothing is held, by %v", m.Log())
		}
	}
	y := Count(c, 0)
	if mem.Play(m, y, nil, 99); y.Ans() != (api.Ans{Exact: true}) || Held(c, m.Words(), 3) != 4 {
		t.Errorf("%+v, %d are held", y.Ans(), Held(c, m.Words(), 3))
	}
}

// P3: what is handed in stays as it is, its spare room too; asked again, all is told again.
func TestHandedInStays(t *testing.T) {
	pick := sample.Drawer(37)
	for range 300 {
		c := pick.Setting()
		parents, limits, w := sample.Spacious(c.Parents), sample.Spacious(c.Limits), sample.Spacious(anyWords(pick, c))
		wasParents, wasLimits, was := slices.Clone(parents[:cap(parents)]), slices.Clone(limits[:cap(limits)]), slices.Clone(w[:cap(w)])
		c.Parents, c.Limits = parents, limits
		told := func() []int {
			var l []int
			for node := range c.Parents {
				l = append(l, Used(c, w, node), Held(c, w, node))
				mem.Play(sample.LaidOut(w), Count(c, node), nil, 99)
				mem.Play(sample.LaidOut(w), Peek(c, node), nil, 99)
			}
			for k := range c.Tickets {
				node, n, _ := Live(c, w, k)
				l = append(l, node, n)
			}
			return l
		}
		if first := told(); !slices.Equal(first, told()) {
			t.Fatalf("%+v, %v: %v; then %v", c, w, first, told())
		}
		if !slices.Equal(parents[:cap(parents)], wasParents) || !slices.Equal(limits[:cap(limits)], wasLimits) || !slices.Equal(w[:cap(w)], was) {
			t.Fatalf("%+v, %v; was %v, %v, %v", c, w, wasParents, wasLimits, was)
		}
	}
}

// P3: machines stand apart.
func TestMachinesStandApart(t *testing.T) {
	c, w := fewWith(4, 10, 8, v+3)
	m := sample.LaidOut(w)
	x, y, z, p := Count(c, 0), Count(c, 0), Count(c, 1), Peek(c, 0)
	for range 8 {
		x.Step(m)
		z.Step(m)
	}
	if y.Ans() != (api.Ans{}) || p.Ans() != (api.Ans{}) || x.Ans() != (api.Ans{N: 13, Exact: true}) || z.Ans() != (api.Ans{Exact: true}) {
		t.Errorf("%+v, %+v, %+v, %+v", x.Ans(), y.Ans(), z.Ans(), p.Ans())
	}
	if steps, last := mem.Play(m, y, nil, 99); steps != 8 || !last || y.Ans() != x.Ans() {
		t.Errorf("%d, %t, %+v", steps, last, y.Ans())
	}
}

// Wrong inputs: tickets and nodes that there are not have nothing, whatever stands beside the words of those that there are.
func TestWrongPlaces(t *testing.T) {
	c := sample.Few()
	w := slices.Repeat([]int{live, body(3, 2)}, 40)
	for _, k := range []int{-1, -2, -20, -1 << 62, math.MinInt, 3, 4, 16, 1 << 62, math.MaxInt} {
		checkLive(t, c, w, k, 0, 0, false)
	}
	for _, node := range []int{-1, -2, math.MinInt, 4, 11, 12, 1 << 62, math.MaxInt} {
		if got := Used(c, w, node); got != 0 {
			t.Errorf("node %d uses %d", node, got)
		}
	}
}

// P1: nothing is said of other settings, words, nodes and tickets, but all calls end, and none panics.
func TestWrongInputsEnd(t *testing.T) {
	right := sample.Few()
	lists := [][]int{nil, {}, {live}, slices.Repeat([]int{live}, 41), slices.Repeat([]int{live, 5}, 100)}
	for _, a := range sample.Numbers() {
		for _, b := range sample.Numbers() {
			for _, c := range []api.Conf{
				right, {}, {Tickets: a, Stripes: b, Retry: a}, {Tickets: a, Stripes: 1, Parents: []int{-1, b}},
				{Tickets: 3, Stripes: a, Retry: b, Parents: []int{a, b, a}, Limits: []int{1}},
			} {
				for _, w := range lists {
					Live(c, w, a)
					Used(c, w, b)
					Held(c, w, a)
				}
				mem.Play(mem.New(50), Count(c, a), nil, 50)
				mem.Play(nil, Peek(c, b), nil, 50)
			}
		}
	}
}
