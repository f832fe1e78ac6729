package pack

import (
	"math"
	"testing"
)

const (
	maxVersion = 1<<32 - 1
	minValue   = -1 << 31
	maxValue   = 1<<31 - 1
)

// Both edges of each half, their neighbours, and ordinary ones between.
func rightVersions() []int {
	return []int{0, 1, 2, 77, 1<<31 - 1, 1 << 31, 1<<31 + 1, maxVersion - 1, maxVersion}
}

func rightValues() []int {
	return []int{minValue, minValue + 1, -123456, -2, -1, 0, 1, 2, 123456, maxValue - 1, maxValue}
}

func wrongVersions() []int {
	return []int{-1, -2, minValue, maxVersion + 1, maxVersion + 2, 1 << 40, 1<<62 + 1, math.MinInt, math.MaxInt}
}

func wrongValues() []int {
	return []int{minValue - 1, minValue - 2, maxValue + 1, maxValue + 2, maxVersion, 1 << 32, -1 << 32, math.MinInt, math.MaxInt}
}

// Words of all kinds of bits, those that no call of this package need have made among them.
func anyWords() []int {
	l := []int{0, 1, -1, math.MinInt, math.MaxInt, 0x0123456789abcdef, -0x0123456789abcdef}
	for i := range 64 {
		l = append(l, 1<<i, 1<<i-1, -1<<i, ^(1 << i))
	}
	return l
}

// P1.1, of A1: words as their bits stand.
func TestWordIsItsBits(t *testing.T) {
	for _, c := range []struct{ version, value, want int }{
		{0, 0, 0},
		{0, 5, 5},
		{1, 0, 1 << 32},
		{3, 4, 3<<32 + 4},
		{1, -1, 1<<33 - 1},
		{0, -1, 1<<32 - 1},
		{0, maxValue, 1<<31 - 1},
		{0, minValue, 1 << 31},
		{7, minValue, 7<<32 + 1<<31},
		{1<<31 - 1, -1, math.MaxInt},
		{1 << 31, 0, math.MinInt},
		{maxVersion, 0, -1 << 32},
		{maxVersion, maxValue, -1<<32 + 1<<31 - 1},
		{maxVersion, minValue, -1 << 31},
		{maxVersion, -1, -1},
	} {
		if w, ok := Word(c.version, c.value); w != c.want || !ok {
			t.Errorf("Word(%d, %d) is %d, %t; want %d, true", c.version, c.value, w, ok, c.want)
		}
	}
}

// P1.1, of A1, and P2: what may not be is 0 and false, with either half wrong, or both.
func TestWordRefuses(t *testing.T) {
	refused := func(version, value int) {
		if w, ok := Word(version, value); w != 0 || ok {
			t.Errorf("Word(%d, %d) is %d, %t; want 0, false", version, value, w, ok)
		}
	}
	for _, version := range wrongVersions() {
		for _, value := range append(rightValues(), wrongValues()...) {
			refused(version, value)
		}
	}
	for _, version := range rightVersions() {
		for _, value := range wrongValues() {
			refused(version, value)
		}
	}
}

// P1.1, of A1: any word has a version and a value, worked out here by arithmetic.
func TestVersionAndValueOfAnyWord(t *testing.T) {
	for _, c := range []struct{ w, version, value int }{
		{0, 0, 0},
		{5, 0, 5},
		{1<<33 - 1, 1, -1},
		{1 << 31, 0, minValue},
		{1<<31 - 1, 0, maxValue},
		{-1, maxVersion, -1},
		{math.MinInt, 1 << 31, 0},
		{math.MaxInt, 1<<31 - 1, -1},
	} {
		if v, x := Version(c.w), Value(c.w); v != c.version || x != c.value {
			t.Errorf("word %d is of %d and %d; want %d and %d", c.w, v, x, c.version, c.value)
		}
	}
	for _, w := range anyWords() {
		value := (w%(1<<32) + 1<<32) % (1 << 32)
		version := (w - value) / (1 << 32)
		if version < 0 {
			version += 1 << 32
		}
		if value > maxValue {
			value -= 1 << 32
		}
		if v, x := Version(w), Value(w); v != version || x != value {
			t.Errorf("word %d is of %d and %d; want %d and %d", w, v, x, version, value)
		}
	}
}

// P1.1, of A2.
func TestNext(t *testing.T) {
	for _, c := range []struct{ w, value, want int }{
		{0, 0, 1 << 32},
		{0, 7, 1<<32 + 7},
		{3, 0, 1 << 32},
		{5<<32 + 9, -1, 7<<32 - 1},
		{1<<33 - 1, -1, 3<<32 - 1},
		{4 << 32, minValue, 5<<32 + 1<<31},
		{4 << 32, maxValue, 5<<32 + 1<<31 - 1},
		{math.MaxInt, 0, math.MinInt},
		{-2 << 32, 2, -1<<32 + 2},
		{-1, 7, 7},
		{-1 << 32, -1, 1<<32 - 1},
		{-1<<32 + 5, 0, 0},
	} {
		if w, ok := Next(c.w, c.value); w != c.want || !ok {
			t.Errorf("Next(%d, %d) is %d, %t; want %d, true", c.w, c.value, w, ok, c.want)
		}
	}
}

// P1.1, of A2: one version on from any word, 0 behind the last one, and the old value left out.
func TestNextOfAnyWord(t *testing.T) {
	for _, w := range anyWords() {
		for _, value := range rightValues() {
			version := Version(w) + 1
			if version > maxVersion {
				version = 0
			}
			n, ok := Next(w, value)
			if !ok || Version(n) != version || Value(n) != value {
				t.Errorf("Next(%d, %d) is %d, %t, of %d and %d; want version %d", w, value, n, ok, Version(n), Value(n), version)
			}
		}
	}
}

// P1.1, of A2, and P2.
func TestNextRefuses(t *testing.T) {
	for _, w := range anyWords() {
		for _, value := range wrongValues() {
			if n, ok := Next(w, value); n != 0 || ok {
				t.Errorf("Next(%d, %d) is %d, %t; want 0, false", w, value, n, ok)
			}
		}
	}
}

// P1.2: a version and a value come back out of their word, and unlike ones have unlike words.
func TestVersionsAndValuesComeBack(t *testing.T) {
	type pair struct{ version, value int }
	of := map[int]pair{}
	for _, version := range rightVersions() {
		for _, value := range rightValues() {
			w, ok := Word(version, value)
			if !ok || Version(w) != version || Value(w) != value {
				t.Errorf("Word(%d, %d) is %d, %t, of %d and %d", version, value, w, ok, Version(w), Value(w))
			}
			if other, had := of[w]; had {
				t.Errorf("%v and %v have one word, %d", other, pair{version, value}, w)
			}
			of[w] = pair{version, value}
		}
	}
}

// P1.2: any word comes back out of its version and its value, which both may be.
func TestWordsComeBack(t *testing.T) {
	for _, w := range anyWords() {
		version, value := Version(w), Value(w)
		if version < 0 || version > maxVersion || value < minValue || value > maxValue {
			t.Errorf("word %d is of %d and %d", w, version, value)
		}
		if back, ok := Word(version, value); back != w || !ok {
			t.Errorf("word %d comes back as %d, %t", w, back, ok)
		}
	}
}

// P1 and P3: at all numbers the calls end, and answer the same when asked again.
func TestAnswersHangOnArgumentsAlone(t *testing.T) {
	type answers struct {
		version, value, word, next int
		wordOk, nextOk             bool
	}
	ask := func(a, b int) answers {
		x := answers{version: Version(a), value: Value(a)}
		x.word, x.wordOk = Word(a, b)
		x.next, x.nextOk = Next(a, b)
		return x
	}
	l := append(anyWords(), append(wrongVersions(), wrongValues()...)...)
	first := map[[2]int]answers{}
	for _, a := range l {
		for _, b := range l {
			first[[2]int{a, b}] = ask(a, b)
		}
	}
	for k, x := range first {
		if again := ask(k[0], k[1]); again != x {
			t.Errorf("%v: %v, and when asked again %v", k, x, again)
		}
	}
}
