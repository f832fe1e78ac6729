package tree

import (
	"math"
	"slices"
	"testing"

	"breadline/api"
)

func set(parents ...int) api.Conf {
	limits := make([]int, len(parents))
	for i := range limits {
		limits[i] = 10 * (i + 1)
	}
	return api.Conf{Threads: 2, Stripes: 4, Gate: 8, Lease: 3, Retry: 2, Tickets: 5, Parents: parents, Limits: limits}
}

// Each tenant below the one ahead of it, and all below the first one.
func chain(n int) []int {
	l := make([]int, n)
	for i := range l {
		l[i] = i - 1
	}
	return l
}

func star(n int) []int {
	l := make([]int, n)
	l[0] = -1
	return l
}

// All trees of up to so many tenants, and the two that go furthest.
func someTrees(most int) [][]int {
	l := [][]int{{-1}}
	for from := 0; len(l[from]) < most; from++ {
		for p := range len(l[from]) {
			l = append(l, append(slices.Clone(l[from]), p))
		}
	}
	return append(l, chain(12), star(12))
}

// Nodes that there are not, of so many: 12 at most.
func noNodes(n int) []int { return []int{-1, -2, n, n + 1, 12, 1 << 40, math.MinInt, math.MaxInt} }

// Paths as the words say them: node, its parent, and so on.
func pathOf(parents []int, node int) []int {
	var l []int
	for node >= 0 {
		l = append(l, node)
		node = parents[node]
	}
	return l
}

// P4.1, of D1: each number from its lowest on, up to its highest, and none beside them.
func TestRightOfNumbers(t *testing.T) {
	for _, f := range []struct {
		name      string
		low, high int
		put       func(c *api.Conf, n int)
	}{
		{"Threads", 1, 8, func(c *api.Conf, n int) { c.Threads = n }},
		{"Gate", 1, 1 << 20, func(c *api.Conf, n int) { c.Gate = n }},
		{"Lease", 0, 1 << 20, func(c *api.Conf, n int) { c.Lease = n }},
		{"Retry", 1, 8, func(c *api.Conf, n int) { c.Retry = n }},
		{"Tickets", 1, 16, func(c *api.Conf, n int) { c.Tickets = n }},
		{"the first limit", 0, 1 << 40, func(c *api.Conf, n int) { c.Limits[0] = n }},
		{"a limit between", 0, 1 << 40, func(c *api.Conf, n int) { c.Limits[1] = n }},
		{"the last limit", 0, 1 << 40, func(c *api.Conf, n int) { c.Limits[2] = n }},
	} {
		for _, n := range []int{f.low, f.low + 1, (f.low + f.high) / 2, f.high - 1, f.high, f.low - 1, f.low - 2, f.high + 1, f.high + 2, 1 << 62, math.MinInt, math.MaxInt} {
			c := set(-1, 0, 0)
			f.put(&c, n)
			if got, want := Right(c), f.low <= n && n <= f.high; got != want {
				t.Errorf("%s %d: %t", f.name, n, got)
			}
		}
	}
}

// P4.1, of D1: 1, 2, 4 or 8 stripes.
func TestRightOfStripes(t *testing.T) {
	l := []int{16, 32, 1 << 32, 1 << 62, math.MinInt, math.MinInt + 1, math.MaxInt}
	for n := -9; n <= 17; n++ {
		l = append(l, n)
	}
	for _, n := range l {
		c := set(-1, 0)
		c.Stripes = n
		if got, want := Right(c), n == 1 || n == 2 || n == 4 || n == 8; got != want {
			t.Errorf("%d stripes: %t", n, got)
		}
	}
}

// P4.1, of D1: 1 to 12 tenants, and as many limits.
func TestRightOfLengths(t *testing.T) {
	for parents := range 16 {
		for limits := range 16 {
			c := set(chain(parents)...)
			c.Limits = make([]int, limits)
			if got, want := Right(c), 1 <= parents && parents <= 12 && limits == parents; got != want {
				t.Errorf("%d parents, %d limits: %t", parents, limits, got)
			}
		}
	}
	if Right(api.Conf{}) || Right(set(chain(100000)...)) {
		t.Error("a setting of nothing, or of far too much, is right")
	}
}

// P4.1, of D1: the first one has no parent, each other one has one ahead of it.
func TestRightOfParents(t *testing.T) {
	for _, l := range someTrees(6) {
		if !Right(set(l...)) {
			t.Errorf("%v is not right", l)
		}
		for i := range l {
			for _, p := range []int{-3, -2, -1, 0, 1, 2, i - 1, i, i + 1, len(l), 12, 1 << 40, math.MinInt, math.MaxInt} {
				turned := slices.Clone(l)
				turned[i] = p
				want := p == -1
				if i > 0 {
					want = 0 <= p && p < i
				}
				if got := Right(set(turned...)); got != want {
					t.Errorf("%v: %t", turned, got)
				}
			}
		}
	}
}

// P4.1, of D2: paths, of the document's example among them.
func TestPath(t *testing.T) {
	if got := Path(set(-1, 0, 1), 2); !slices.Equal(got, []int{2, 1, 0}) {
		t.Errorf("parents -1, 0, 1: the path of 2 is %v", got)
	}
	for _, l := range someTrees(7) {
		c := set(l...)
		for node := range l {
			if got, want := Path(c, node), pathOf(l, node); !slices.Equal(got, want) {
				t.Errorf("%v: the path of %d is %v; want %v", l, node, got, want)
			}
		}
		for _, node := range noNodes(len(l)) {
			if got := Path(c, node); len(got) != 0 {
				t.Errorf("%v: the path of %d is %v", l, node, got)
			}
		}
	}
}

// P4.1, of D2.
func TestDepth(t *testing.T) {
	for _, c := range []struct {
		parents []int
		want    int
	}{
		{[]int{-1}, 1},
		{[]int{-1, 0}, 2},
		{[]int{-1, 0, 0}, 2},
		{[]int{-1, 0, 1}, 3},
		{[]int{-1, 0, 1, 0}, 3},
		{[]int{-1, 0, 1, 1, 3, 0, 0}, 4},
		{chain(12), 12},
		{star(12), 2},
	} {
		if got := Depth(set(c.parents...)); got != c.want {
			t.Errorf("%v: depth %d; want %d", c.parents, got, c.want)
		}
	}
	for _, l := range someTrees(7) {
		want := 0
		for node := range l {
			want = max(want, len(pathOf(l, node)))
		}
		if got := Depth(set(l...)); got != want {
			t.Errorf("%v: depth %d; want %d", l, got, want)
		}
	}
}

// P4.1, of D3: whoever stands on a path is above, and nobody else; nodes that there are not stand nowhere.
func TestUnder(t *testing.T) {
	for _, l := range someTrees(6) {
		c := set(l...)
		for a := range l {
			for b := range l {
				if got, want := Under(c, a, b), slices.Contains(pathOf(l, a), b); got != want {
					t.Errorf("%v: under %d is %d: %t", l, a, b, got)
				}
			}
			for _, no := range noNodes(len(l)) {
				if Under(c, a, no) || Under(c, no, a) || Under(c, no, no) {
					t.Errorf("%v: %d, that there is not, stands under %d, or above, or under itself", l, no, a)
				}
			}
		}
	}
}

// P4.1, of D3.
func TestLeaf(t *testing.T) {
	for _, l := range someTrees(6) {
		c := set(l...)
		for node := range l {
			want := true
			for other := range l {
				want = want && l[other] != node
			}
			if got := Leaf(c, node); got != want {
				t.Errorf("%v: %d is a leaf: %t", l, node, got)
			}
		}
		for _, no := range noNodes(len(l)) {
			if Leaf(c, no) {
				t.Errorf("%v: %d, that there is not, is a leaf", l, no)
			}
		}
	}
}

// P4.2: each path ends at the first tenant, without any twice.
func TestPathsEndAtTheFirst(t *testing.T) {
	for _, l := range someTrees(7) {
		c := set(l...)
		for node := range l {
			path := Path(c, node)
			if len(path) == 0 || path[len(path)-1] != 0 {
				t.Errorf("%v: the path of %d is %v", l, node, path)
			}
			slices.Sort(path)
			if len(slices.Compact(path)) != len(path) {
				t.Errorf("%v: the path of %d has one twice", l, node)
			}
		}
	}
}

// P4.2: who stands above whom is an order: each above itself, no two above each other, and who is above one that is above is above.
func TestAboveIsAnOrder(t *testing.T) {
	for _, l := range someTrees(6) {
		c := set(l...)
		for a := range l {
			if !Under(c, a, a) || !Under(c, a, 0) {
				t.Errorf("%v: %d does not stand under itself, or the first", l, a)
			}
			for b := range l {
				if a != b && Under(c, a, b) && Under(c, b, a) {
					t.Errorf("%v: %d and %d stand under each other", l, a, b)
				}
				for x := range l {
					if Under(c, a, b) && Under(c, b, x) && !Under(c, a, x) {
						t.Errorf("%v: %d stands under %d, and that under %d", l, a, b, x)
					}
				}
			}
		}
	}
}

// P3: what is handed in stays as it is, its spare room too; each path is new memory; asked again, all is the same.
func TestArgumentsStay(t *testing.T) {
	parents, limits := append(make([]int, 0, 9), -1, 0, 1, 0), append(make([]int, 0, 9), 20, 10, 8, 5)
	c := set()
	c.Parents, c.Limits = parents, limits
	room := [][]int{slices.Clone(parents[:9]), slices.Clone(limits[:9])}
	ask := func() (bool, int, []int) { return Right(c), Depth(c), Path(c, 2) }
	right, depth, path := ask()
	path = path[:cap(path)]
	for i := range path {
		path[i] = 77
	}
	Under(c, 2, 0)
	Leaf(c, 2)
	if !slices.Equal(parents[:9], room[0]) || !slices.Equal(limits[:9], room[1]) {
		t.Error("what was handed in is not as it was")
	}
	if again, deep, way := ask(); again != right || deep != depth || !slices.Equal(way, []int{2, 1, 0}) {
		t.Errorf("asked again: %t, %d, %v", again, deep, way)
	}
}

// Nothing is said of settings that are not right, but all calls end at them, and none panics.
func TestWrongSettingsEnd(t *testing.T) {
	for _, l := range [][]int{nil, {}, {0}, {5}, {1, 0}, {-1, 2, 1}, {-1, 1, 2}, {-7, -9}, {math.MaxInt, math.MinInt}} {
		c := set(l...)
		Right(c)
		Depth(c)
		for a := -2; a < 4; a++ {
			Path(c, a)
			Leaf(c, a)
			for b := -2; b < 4; b++ {
				Under(c, a, b)
			}
		}
	}
}
