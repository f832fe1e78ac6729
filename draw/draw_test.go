package draw

import (
	"math"
	"testing"
)

const (
	lastDraw   = 1<<32 - 1
	lastThread = 1000
	mostMany   = 1 << 20
)

// Both edges, each bit alone and all below it, and ordinary ones, some of them far along a row of draws.
func someDraws() []int {
	l := []int{2, 3, 77, 123456789, 0x55555555, 0xaaaaaaaa, 0xdeadbeef, lastDraw - 1}
	for i := range 32 {
		l = append(l, 1<<i, 1<<(i+1)-1)
	}
	x := 1
	for range 100 {
		x = x * 48271 % (1<<31 - 1)
		l = append(l, x, lastDraw-x)
	}
	return l
}

// Among them numbers whose lowest 32 bits alone would be a draw.
func noDraws() []int {
	return []int{0, -1, -2, -lastDraw, -1 << 31, -1 << 32, 1 << 32, 1<<32 + 1, 1<<32 + 2, 7 << 32, 1 << 62, 1<<63 - 2, math.MinInt, math.MinInt + 5, math.MaxInt}
}

func isDraw(x int) bool { return 1 <= x && x <= lastDraw }

// The chapter's words by arithmetic, and a bit at a time: shifted up is times a power of two, down is divided by one.
func nextByArithmetic(x int) int {
	together := func(a, b int) int {
		sum := 0
		for bit := 1; bit < 1<<32; bit *= 2 {
			if a/bit%2 != b/bit%2 {
				sum += bit
			}
		}
		return sum
	}
	x = together(x, x*(1<<13)%(1<<32))
	x = together(x, x/(1<<17))
	return together(x, x*(1<<5)%(1<<32))
}

// P2.1, of B1: draws whose next ones are known.
func TestNextKnown(t *testing.T) {
	x := 1
	for i, want := range []int{270369, 67634689, 2647435461, 307599695} {
		if x = Next(x); x != want {
			t.Errorf("%d draws behind 1 stands %d; want %d", i+1, x, want)
		}
	}
	for _, c := range []struct{ x, want int }{
		{2, 540738},
		{1 << 31, 1<<31 + 1<<14 + 1<<19},
		{1 << 18, 1<<18 + 1<<31 + 1<<23 + 1<<14 + 1<<1 + 1<<19 + 1<<6},
	} {
		if n := Next(c.x); n != c.want {
			t.Errorf("Next(%d) is %d; want %d", c.x, n, c.want)
		}
	}
}

// P2.1, of B1: as the chapter's words say.
func TestNextByArithmetic(t *testing.T) {
	for _, x := range someDraws() {
		if n, want := Next(x), nextByArithmetic(x); n != want {
			t.Errorf("Next(%d) is %d; want %d", x, n, want)
		}
	}
}

// P2.1, of B1: of what is no draw the answer is that of 1.
func TestNextOfNoDraw(t *testing.T) {
	for _, x := range noDraws() {
		if n := Next(x); n != 270369 {
			t.Errorf("Next(%d) is %d; want 270369", x, n)
		}
	}
}

// P2.1, of B1: known first draws, both ends of the threads among them.
func TestBeginKnown(t *testing.T) {
	for _, c := range []struct{ thread, want int }{
		{0, 2654435761},
		{1, 1013904226},
		{2, 3668339987},
		{7, 4055616904},
		{lastThread, 2800407833},
	} {
		if b := Begin(c.thread); b != c.want {
			t.Errorf("Begin(%d) is %d; want %d", c.thread, b, c.want)
		}
	}
}

// P2.1, of B1: of every thread, and each has a draw of its own.
func TestBeginOfEveryThread(t *testing.T) {
	of := map[int]int{}
	for thread := range lastThread + 1 {
		b, want := Begin(thread), (thread+1)*2654435761%(1<<32)
		if b != want || !isDraw(b) {
			t.Errorf("Begin(%d) is %d; want %d", thread, b, want)
		}
		if other, had := of[b]; had {
			t.Errorf("threads %d and %d begin with one draw, %d", other, thread, b)
		}
		of[b] = thread
	}
}

// P2.1, of B2.
func TestPickKnown(t *testing.T) {
	for _, c := range []struct{ x, many, want int }{
		{1, 1, 0},
		{lastDraw, 1, 0},
		{1, 2, 1},
		{2, 2, 0},
		{7, 8, 7},
		{8, 8, 0},
		{10, 3, 1},
		{270369, 8, 1},
		{2647435461, 10, 1},
		{lastDraw, 2, 1},
		{lastDraw, 7, 3},
		{mostMany - 1, mostMany, mostMany - 1},
		{mostMany, mostMany, 0},
		{mostMany + 1, mostMany, 1},
		{lastDraw, mostMany, mostMany - 1},
		{lastDraw, mostMany - 1, 1<<12 - 1},
	} {
		if p := Pick(c.x, c.many); p != c.want {
			t.Errorf("Pick(%d, %d) is %d; want %d", c.x, c.many, p, c.want)
		}
	}
}

// P2.1, of B2: what is picked is one of so many, and so many times many ahead of the draw.
func TestPickIsOneOfMany(t *testing.T) {
	for _, x := range someDraws() {
		for _, many := range []int{1, 2, 3, 5, 8, 10, 12, 1000, 1 << 16, mostMany - 1, mostMany} {
			p := Pick(x, many)
			if p < 0 || p >= many || x/many*many+p != x {
				t.Errorf("Pick(%d, %d) is %d", x, many, p)
			}
		}
	}
}

// P2.2: draws lead to draws, however far.
func TestNextIsDraw(t *testing.T) {
	x := 1
	for range 1 << 20 {
		if x = Next(x); !isDraw(x) {
			t.Fatalf("a row of draws comes to %d", x)
		}
	}
	for _, x := range append(someDraws(), noDraws()...) {
		if n := Next(x); !isDraw(n) {
			t.Errorf("Next(%d) is %d, no draw", x, n)
		}
	}
}

// P2.2: unlike draws that stand side by side, at both ends and in the middle, have unlike next ones.
func TestNextOfUnlikeIsUnlike(t *testing.T) {
	of := map[int]int{}
	for _, from := range []int{1, 1<<16 - 1000, 1 << 31, lastDraw - 1<<12} {
		for x := from; x <= from+1<<12; x++ {
			n := Next(x)
			if other, had := of[n]; had && other != x {
				t.Errorf("Next of %d and of %d are one, %d", other, x, n)
			}
			of[n] = x
		}
	}
}

// P2.2: as draws go by bits (P2.3), any unlike ones have unlike next ones, none of them 0, if no next ones of single bits put together are 0.
func TestNextOfBitsStandAlone(t *testing.T) {
	var byTop [32]int
	for i := range 32 {
		n := Next(1 << i)
		for top := 31; top >= 0 && n != 0; top-- {
			if n>>top&1 == 0 {
				continue
			}
			if byTop[top] == 0 {
				byTop[top] = n
				break
			}
			n ^= byTop[top]
		}
		if n == 0 {
			t.Errorf("the next one of bit %d is that of bits below it", i)
		}
	}
}

// P2.3: of unlike draws, as like ones put together are 0, which is no draw.
func TestNextGoesByBits(t *testing.T) {
	l := someDraws()
	for _, a := range l {
		for _, b := range l {
			if a != b && Next(a^b) != Next(a)^Next(b) {
				t.Errorf("Next(%d) is %d; %d and %d, put together, have %d", a^b, Next(a^b), a, b, Next(a)^Next(b))
			}
		}
	}
}

// P2.3: any draw's next one is that of its bits put together.
func TestNextIsOfItsBits(t *testing.T) {
	for _, x := range someDraws() {
		want := 0
		for i := range 32 {
			if x>>i&1 == 1 {
				want ^= Next(1 << i)
			}
		}
		if n := Next(x); n != want {
			t.Errorf("Next(%d) is %d; its bits have %d", x, n, want)
		}
	}
}

// P1: at all numbers the calls end, those too of which nothing is said.
func TestAllNumbersEnd(t *testing.T) {
	l := append(someDraws(), noDraws()...)
	for _, a := range l {
		Next(a)
		Begin(a)
		for _, b := range l {
			Pick(a, b)
		}
	}
}

// P3: the answers are the same when asked again, with others asked between.
func TestAnswersHangOnArgumentsAlone(t *testing.T) {
	type answers struct{ next, begin, pick int }
	ask := func(i, x int) answers { return answers{Next(x), Begin(i), Pick(x, i+1)} }
	l := append(someDraws(), noDraws()...)
	var once []answers
	for i, x := range l {
		once = append(once, ask(i, x))
	}
	for i := len(l) - 1; i >= 0; i-- {
		if again := ask(i, l[i]); again != once[i] {
			t.Errorf("%d: %v, and when asked again %v", l[i], once[i], again)
		}
	}
}
