package plan

import (
	"math"
	"slices"
	"testing"

	"breadline/api"
)

// All tenants below the first one, with limits that all differ.
func set(nodes, stripes, tickets int) api.Conf {
	c := api.Conf{Threads: 2, Stripes: stripes, Gate: 8, Lease: 3, Retry: 2, Tickets: tickets}
	for node := range nodes {
		c.Parents = append(c.Parents, min(node, 1)-1)
		c.Limits = append(c.Limits, 100+7*node)
	}
	return c
}

// Each number of nodes, stripes and tickets that there may be.
func allSettings() []api.Conf {
	var l []api.Conf
	for nodes := 1; nodes <= api.MaxNodes; nodes++ {
		for _, stripes := range []int{1, 2, 4, 8} {
			for tickets := 1; tickets <= api.MaxTickets; tickets++ {
				l = append(l, set(nodes, stripes, tickets))
			}
		}
	}
	return l
}

// thing is what a word is.
type thing struct {
	name         string
	of, numbered int
}

// What stands in a node's words, one behind the other, as the chapter says them.
func thingsOfNode(c api.Conf, node int) []thing {
	l := []thing{{"limit", node, 0}, {"avail", node, 0}}
	for stripe := range c.Stripes {
		l = append(l, thing{"lease", node, stripe})
	}
	l = append(l, thing{"global", node, 0}, thing{"begun", node, 0}, thing{"done", node, 0}, thing{"live", node, 0})
	for stripe := range c.Stripes {
		l = append(l, thing{"stripe", node, stripe})
	}
	return l
}

// All things in the order of their words: the nodes' from word 0 on, and behind them the tickets'.
func things(c api.Conf) []thing {
	var l []thing
	for node := range c.Parents {
		l = append(l, thingsOfNode(c, node)...)
	}
	for ticket := range c.Tickets {
		l = append(l, thing{"state", ticket, 0}, thing{"body", ticket, 0})
	}
	return l
}

// Where the package says that a thing stands.
func placeOf(c api.Conf, x thing) int {
	switch x.name {
	case "limit":
		return Limit(c, x.of)
	case "avail":
		return Avail(c, x.of)
	case "lease":
		return Lease(c, x.of, x.numbered)
	case "global":
		return Counter(c, x.of)
	case "begun":
		return Counter(c, x.of) + 1
	case "done":
		return Counter(c, x.of) + 2
	case "live":
		return Counter(c, x.of) + 3
	case "stripe":
		return Counter(c, x.of) + 4 + x.numbered
	case "state":
		return Ticket(c, x.of)
	}
	return Ticket(c, x.of) + 1
}

// P5.1, of E1: numbers written out, of the chapter's example among them.
func TestNodesWords(t *testing.T) {
	for _, f := range []struct {
		stripes, node                 int
		limit, avail, lease0, counter int
	}{
		{1, 0, 0, 1, 2, 3},
		{1, 1, 8, 9, 10, 11},
		{1, 11, 88, 89, 90, 91},
		{2, 0, 0, 1, 2, 4},
		{2, 1, 10, 11, 12, 14},
		{2, 3, 30, 31, 32, 34},
		{4, 0, 0, 1, 2, 6},
		{4, 2, 28, 29, 30, 34},
		{8, 0, 0, 1, 2, 10},
		{8, 1, 22, 23, 24, 32},
		{8, 11, 242, 243, 244, 252},
	} {
		c := set(12, f.stripes, 5)
		if limit, avail := Limit(c, f.node), Avail(c, f.node); limit != f.limit || avail != f.avail {
			t.Errorf("%d stripes, node %d: limit %d, available %d; want %d, %d", f.stripes, f.node, limit, avail, f.limit, f.avail)
		}
		if counter := Counter(c, f.node); counter != f.counter {
			t.Errorf("%d stripes, node %d: counter %d; want %d", f.stripes, f.node, counter, f.counter)
		}
		for stripe := range f.stripes {
			if lease := Lease(c, f.node, stripe); lease != f.lease0+stripe {
				t.Errorf("%d stripes, node %d: lease %d is %d; want %d", f.stripes, f.node, stripe, lease, f.lease0+stripe)
			}
		}
	}
}

// P5.1, of E2: numbers written out.
func TestTicketsAndSize(t *testing.T) {
	for _, f := range []struct {
		nodes, stripes, tickets int
		first, last, size       int
	}{
		{1, 1, 1, 8, 8, 10},
		{1, 8, 1, 22, 22, 24},
		{1, 1, 16, 8, 38, 40},
		{4, 2, 3, 40, 44, 46},
		{3, 4, 5, 42, 50, 52},
		{12, 1, 1, 96, 96, 98},
		{12, 8, 16, 264, 294, 296},
	} {
		c := set(f.nodes, f.stripes, f.tickets)
		first, last, size := Ticket(c, 0), Ticket(c, f.tickets-1), Size(c)
		if first != f.first || last != f.last || size != f.size {
			t.Errorf("%d nodes, %d stripes, %d tickets: %d to %d, size %d; want %d to %d, size %d", f.nodes, f.stripes, f.tickets, first, last, size, f.first, f.last, f.size)
		}
	}
}

// P5.1, of E1 and E2: at all sizes, things stand one behind the other in the chapter's order.
func TestWordsInOrder(t *testing.T) {
	for _, c := range allSettings() {
		all := things(c)
		for w, x := range all {
			if got := placeOf(c, x); got != w {
				t.Fatalf("%d nodes, %d stripes, %d tickets: %+v is word %d; want %d", len(c.Parents), c.Stripes, c.Tickets, x, got, w)
			}
		}
		if size := Size(c); size != len(all) {
			t.Errorf("%d nodes, %d stripes, %d tickets: size %d; want %d", len(c.Parents), c.Stripes, c.Tickets, size, len(all))
		}
	}
}

// P5.2: unlike things have unlike words, and each word is something's.
func TestWordsStandApart(t *testing.T) {
	for _, c := range allSettings() {
		is := make([]int, Size(c))
		for _, x := range things(c) {
			w := placeOf(c, x)
			if w < 0 || w >= len(is) {
				t.Fatalf("%d nodes, %d stripes, %d tickets: %+v is word %d of %d", len(c.Parents), c.Stripes, c.Tickets, x, w, len(is))
			}
			is[w]++
		}
		if w := slices.IndexFunc(is, func(n int) bool { return n != 1 }); w >= 0 {
			t.Errorf("%d nodes, %d stripes, %d tickets: word %d is %d things", len(c.Parents), c.Stripes, c.Tickets, w, is[w])
		}
	}
}

// P5.1: places hang on how many nodes, stripes and tickets there are, and on nothing else of a setting.
func TestPlacesHangOnCountsAlone(t *testing.T) {
	c := set(5, 4, 3)
	for _, turn := range []func(c *api.Conf){
		func(c *api.Conf) { c.Threads = 8 },
		func(c *api.Conf) { c.Gate = api.MaxGate },
		func(c *api.Conf) { c.Lease = 0 },
		func(c *api.Conf) { c.Retry = api.MaxRetry },
		func(c *api.Conf) { c.Parents = []int{-1, 0, 1, 2, 3} },
		func(c *api.Conf) { c.Limits = []int{0, 0, 0, 0, 0} },
	} {
		turned := c
		turn(&turned)
		for w, x := range things(c) {
			if got := placeOf(turned, x); got != w {
				t.Errorf("%+v: %+v is word %d; want %d", turned, x, got, w)
			}
		}
		if Size(turned) != Size(c) {
			t.Errorf("%+v: size %d; want %d", turned, Size(turned), Size(c))
		}
	}
}

// What a thing is at first.
func atFirst(c api.Conf, x thing) int {
	switch x.name {
	case "limit", "avail":
		return c.Limits[x.of]
	case "live":
		return 1
	}
	return 0
}

// P5.1, of E3: words written out.
func TestFreshWrittenOut(t *testing.T) {
	for _, f := range []struct {
		limits           []int
		stripes, tickets int
		want             []int
	}{
		{[]int{7}, 1, 1, []int{7, 7, 0, 0, 0, 0, 1, 0, 0, 0}},
		{[]int{0}, 1, 2, []int{0, 0, 0, 0, 0, 0, 1, 0, 0, 0, 0, 0}},
		{[]int{20, 10}, 2, 1, []int{20, 20, 0, 0, 0, 0, 0, 1, 0, 0, 10, 10, 0, 0, 0, 0, 0, 1, 0, 0, 0, 0}},
		{[]int{1 << 40}, 4, 1, []int{1 << 40, 1 << 40, 0, 0, 0, 0, 0, 0, 0, 1, 0, 0, 0, 0, 0, 0}},
	} {
		c := set(len(f.limits), f.stripes, f.tickets)
		c.Limits = f.limits
		if got := Fresh(c).Words(); !slices.Equal(got, f.want) {
			t.Errorf("limits %v, %d stripes, %d tickets: %v; want %v", f.limits, f.stripes, f.tickets, got, f.want)
		}
	}
}

// P5.1, of E3: at all sizes each word is as its thing is at first, and there were no accesses.
func TestFresh(t *testing.T) {
	for _, c := range allSettings() {
		m := Fresh(c)
		if m.Len() != Size(c) || len(m.Log()) != 0 {
			t.Fatalf("%+v: %d words, %d accesses; want %d, 0", c, m.Len(), len(m.Log()), Size(c))
		}
		words := m.Words()
		for w, x := range things(c) {
			if words[w] != atFirst(c, x) {
				t.Errorf("%+v: word %d, %+v, is %d; want %d", c, w, x, words[w], atFirst(c, x))
			}
		}
	}
}

// P3: each Mem is one of its own.
func TestFreshIsNew(t *testing.T) {
	c := set(3, 2, 4)
	first := Fresh(c)
	want := first.Words()
	for w := range first.Len() {
		first.Store(w, 77)
	}
	if again := Fresh(c); !slices.Equal(again.Words(), want) || len(again.Log()) != 0 {
		t.Errorf("again: %v, %d accesses; want %v", again.Words(), len(again.Log()), want)
	}
}

// P3: what is handed in stays as it is, its spare room too.
func TestSettingStays(t *testing.T) {
	parents, limits := append(make([]int, 0, 9), -1, 0, 1, 0), append(make([]int, 0, 9), 20, 10, 8, 5)
	c := set(4, 2, 3)
	c.Parents, c.Limits = parents, limits
	wasParents, wasLimits := slices.Clone(parents[:9]), slices.Clone(limits[:9])
	m := Fresh(c)
	for w := range m.Len() {
		m.Store(w, 77)
	}
	for _, x := range things(c) {
		placeOf(c, x)
	}
	Size(c)
	if !slices.Equal(parents[:9], wasParents) || !slices.Equal(limits[:9], wasLimits) {
		t.Errorf("parents %v, limits %v; want %v, %v", parents[:9], limits[:9], wasParents, wasLimits)
	}
}

// Numbers of which nothing is said, and ordinary ones.
func anyNumbers() []int {
	return []int{math.MinInt, -1 << 40, -9, -1, 0, 1, 3, 12, 16, 1 << 20, 1 << 62, math.MaxInt}
}

// Nothing is said of settings that are not right, nor of what there is not, but all calls end, and none panics.
func TestWrongInputsEnd(t *testing.T) {
	ask := func(c api.Conf, n int) {
		Limit(c, n)
		Avail(c, n)
		Counter(c, n)
		Ticket(c, n)
		for _, stripe := range anyNumbers() {
			Lease(c, n, stripe)
		}
	}
	lists := [][]int{nil, {}, {-1}, {math.MinInt, math.MaxInt}, make([]int, 2000)}
	for _, parents := range lists {
		for _, limits := range lists {
			for _, n := range anyNumbers() {
				ask(api.Conf{Stripes: n, Tickets: n, Parents: parents, Limits: limits}, n)
				for _, tickets := range anyNumbers() {
					c := api.Conf{Stripes: n, Tickets: tickets, Parents: parents, Limits: limits}
					if Size(c); Fresh(c) == nil {
						t.Errorf("%d parents, %d limits, %d stripes, %d tickets: no Mem", len(parents), len(limits), n, tickets)
					}
				}
			}
		}
	}
}
