package choke

import (
	"math"
	"math/big"
	"math/rand"
	"sync"
	"testing"
)

// Draws about the highest bit, and the last one.
const (
	beforeHalf = uint64(1)<<63 - 1
	half       = uint64(1) << 63
	lastDraw   = uint64(math.MaxUint64)
)

// some are counts of things, with their edges; none are counts of no things.
var (
	some = []int{
		1, 2, 3, 4, 5, 7, 8, 10, 16, 63, 64, 65, 100, 127, 128, 255, 256, 257, 4096, 65535, 65536, 1000003,
		1<<31 - 1, 1 << 31, 1<<32 - 1, 1 << 32, 1<<32 + 1, 1 << 53, 1<<62 - 1, 1 << 62, 1<<62 + 1, math.MaxInt - 1, math.MaxInt,
	}
	none = []int{0, -1, -2, -3, -10, -64, -65536, -1 << 31, -1 << 32, -1 << 62, math.MinInt + 1, math.MinInt}
)

// edges are the draws at which something could go wrong with n things.
func edges(n int) []uint64 {
	u := uint64(n)
	return []uint64{
		0, 1, 2, u - 1, u, u + 1, 2*u - 1, 2 * u, 2*u + 1, 1<<31 - 1, 1 << 31, 1<<32 - 1, 1 << 32, 1<<32 + 1, 1<<53 + 1,
		1<<62 - 1, 1 << 62, 1<<62 + 1, beforeHalf - 1, beforeHalf, half, half + 1, half + u, -u - u, -u - 1, -u, -u + 1, lastDraw - 1, lastDraw,
	}
}

// remainder is taken of numbers that have no highest bit.
func remainder(draw uint64, n int) int {
	return int(new(big.Int).Mod(new(big.Int).SetUint64(draw), big.NewInt(int64(n))).Int64())
}

// plainPick is the chapter's words once more.
func plainPick(draw uint64, n int) (int, bool) {
	if n <= 0 {
		return 0, false
	}
	return remainder(draw, n), true
}

// checkPick fails unless that is what the draw picks, each time it is asked.
func checkPick(t *testing.T, draw uint64, n, want int, there bool) {
	t.Helper()
	for range 2 {
		if got, ok := Pick(draw, n); got != want || ok != there {
			t.Fatalf("Pick(%d, %d): %d, %t, not %d, %t", draw, n, got, ok, want, there)
		}
	}
}

func TestTheChaptersExample(t *testing.T) {
	checkPick(t, 7, 3, 1, true)
}

// Remainders worked out by hand.
func TestPicksByHand(t *testing.T) {
	const quarter, all = 1 << 62, math.MaxInt
	for _, c := range []struct {
		draw    uint64
		n, want int
	}{
		{0, 1, 0}, {1, 1, 0}, {2, 1, 0}, {beforeHalf, 1, 0}, {half, 1, 0}, {lastDraw, 1, 0},
		{0, 2, 0}, {1, 2, 1}, {2, 2, 0}, {3, 2, 1}, {beforeHalf, 2, 1}, {half, 2, 0}, {lastDraw, 2, 1},
		{0, 3, 0}, {1, 3, 1}, {2, 3, 2}, {3, 3, 0}, {4, 3, 1}, {beforeHalf, 3, 1}, {half, 3, 2}, {half + 1, 3, 0}, {lastDraw, 3, 0},
		{0, 10, 0}, {1, 10, 1}, {9, 10, 9}, {10, 10, 0}, {11, 10, 1}, {beforeHalf, 10, 7}, {half, 10, 8}, {lastDraw, 10, 5},
		{0, quarter, 0}, {1, quarter, 1}, {quarter - 1, quarter, quarter - 1}, {quarter, quarter, 0}, {quarter + 1, quarter, 1},
		{beforeHalf, quarter, quarter - 1}, {half, quarter, 0}, {lastDraw, quarter, quarter - 1},
		{0, all, 0}, {1, all, 1}, {all - 1, all, all - 1}, {beforeHalf, all, 0}, {half, all, 1}, {half + 1, all, 2},
		{lastDraw - 2, all, all - 1}, {lastDraw - 1, all, 0}, {lastDraw, all, 1},
	} {
		checkPick(t, c.draw, c.n, c.want, true)
	}
}

func TestPicksAtTheEdges(t *testing.T) {
	for _, n := range some {
		for _, draw := range edges(n) {
			checkPick(t, draw, n, remainder(draw, n), true)
		}
	}
}

func TestFewerThingsThanOne(t *testing.T) {
	draw := rand.New(rand.NewSource(1))
	for _, n := range none {
		for _, d := range edges(n) {
			checkPick(t, d, n, 0, false)
		}
		for range 100 {
			checkPick(t, draw.Uint64(), n, 0, false)
		}
	}
	for n := -1000; n < 1; n++ {
		checkPick(t, uint64(n), n, 0, false)
		checkPick(t, 5, n, 0, false)
	}
}

// Going round by hand, one thing at a time.
func TestPicksOneBehindTheOther(t *testing.T) {
	for n := 1; n <= 64; n++ {
		want := 0
		for draw := range uint64(5 * n) {
			checkPick(t, draw, n, want, true)
			want++
			if want == n {
				want = 0
			}
		}
	}
}

// As many draws as there are things, from wherever on, pick each thing once.
func TestEachThingOnce(t *testing.T) {
	draw := rand.New(rand.NewSource(2))
	for _, n := range []int{1, 2, 3, 5, 10, 64, 100, 1000, 4096} {
		u := uint64(n)
		firsts := []uint64{0, 1, u - 1, u, beforeHalf - u/2, half, lastDraw - u + 1, draw.Uint64(), draw.Uint64()}
		for _, first := range firsts {
			seen := make([]int, n)
			for k := range u {
				if got, ok := Pick(first+k, n); ok && got >= 0 && got < n {
					seen[got]++
				}
			}
			for thing, times := range seen {
				if times != 1 {
					t.Fatalf("from %d on, thing %d of %d is picked %d times", first, thing, n, times)
				}
			}
		}
	}
}

// A remainder of the draw as a number with a sign would be another one.
func TestDrawsWithTheHighestBit(t *testing.T) {
	draw, differ := rand.New(rand.NewSource(3)), 0
	for range 20000 {
		d, n := draw.Uint64()|half, some[draw.Intn(len(some))]
		want := remainder(d, n)
		checkPick(t, d, n, want, true)
		if signed := int(int64(d) % int64(n)); want != signed && want != -signed {
			differ++
		}
	}
	if differ < 1000 {
		t.Fatalf("only %d remainders tell it", differ)
	}
}

func TestDrawnPicks(t *testing.T) {
	draw := rand.New(rand.NewSource(4))
	for range 100000 {
		d, n := draw.Uint64()>>draw.Intn(64), int(draw.Uint64()>>draw.Intn(64))
		want, there := plainPick(d, n)
		checkPick(t, d, n, want, there)
	}
}

func TestPicksInSeveralPlacesAtOnce(t *testing.T) {
	var all sync.WaitGroup
	for k := range 8 {
		all.Go(func() {
			draw := rand.New(rand.NewSource(int64(k)))
			for range 5000 {
				d, n := draw.Uint64(), draw.Intn(1000)-100
				want, there := plainPick(d, n)
				if got, ok := Pick(d, n); got != want || ok != there {
					t.Errorf("Pick(%d, %d): %d, %t, not %d, %t", d, n, got, ok, want, there)
					return
				}
			}
		})
	}
	all.Wait()
}
