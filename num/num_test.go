package num

import (
	"math"
	"math/big"
	"slices"
	"testing"

	"bailiff/api"
)

const most = int64(api.MaxCount)

// edges are the numbers at which something changes: around 0, around the root
// of MaxCount, around MaxCount, and both ends of int64.
func edges() []int64 {
	return []int64{
		math.MinInt64, math.MinInt64 + 1, -most - 1, -most, -2, -1, 0, 1, 2, 3, 7, 10, 1000,
		1<<31 - 1, 1 << 31, 1<<31 + 1, most / 3, most/2 - 1, most / 2, most/2 + 1,
		most - 2, most - 1, most, most + 1, most + 2, math.MaxInt64 - 1, math.MaxInt64,
	}
}

func TestCount(t *testing.T) {
	for _, c := range []struct{ n, want int64 }{
		{0, 0}, {1, 1}, {42, 42},
		{most - 1, most - 1}, {most, most}, {most + 1, most}, {math.MaxInt64, most},
		{-1, 0}, {-most, 0}, {math.MinInt64, 0},
	} {
		if got := Count(c.n); got != c.want {
			t.Errorf("Count(%d): %d, not %d", c.n, got, c.want)
		}
	}
}

func TestAdd(t *testing.T) {
	for _, c := range []struct {
		l    []int64
		want int64
	}{
		{nil, 0}, {[]int64{}, 0},
		{[]int64{0}, 0}, {[]int64{5}, 5}, {[]int64{1, 2, 3, 4}, 10},
		{[]int64{most}, most}, {[]int64{most + 1}, most}, {[]int64{0, most, 0}, most},
		{[]int64{most - 1, 1}, most}, {[]int64{most - 2, 1}, most - 1},
		{[]int64{most / 2, most / 2}, most}, {[]int64{most / 2, most/2 - 1}, most - 1},
		{[]int64{most, 1}, most}, {[]int64{1, most}, most},
		{[]int64{most, most}, most}, {[]int64{most, most, most, most, most}, most},
		{[]int64{math.MaxInt64, math.MaxInt64}, most}, {[]int64{math.MaxInt64, 1, 1}, most},
		{[]int64{-5, 3}, 3}, {[]int64{3, -5}, 3}, {[]int64{-1, -2}, 0},
		{[]int64{math.MinInt64, 7}, 7}, {[]int64{math.MinInt64, math.MinInt64}, 0},
		{[]int64{most, -1}, most}, {[]int64{math.MaxInt64, math.MinInt64}, most},
	} {
		if got := Add(c.l...); got != c.want {
			t.Errorf("Add(%v): %d, not %d", c.l, got, c.want)
		}
	}
	if got := Add(); got != 0 {
		t.Errorf("Add(): %d, not 0", got)
	}
}

func TestAddLeavesItsListAsItIs(t *testing.T) {
	whole := []int64{-5, most + 1, 3, -7, math.MaxInt64}
	before := slices.Clone(whole)
	Add(whole[:3]...)
	if !slices.Equal(whole, before) {
		t.Errorf("the list was %v and is %v", before, whole)
	}
}

func TestSub(t *testing.T) {
	for _, c := range []struct{ a, b, want int64 }{
		{5, 3, 2}, {5, 5, 0}, {5, 0, 5}, {0, 0, 0},
		{3, 5, 0}, {3, 4, 0}, {0, 1, 0}, {0, most, 0}, {1, most, 0},
		{most, 0, most}, {most, 1, most - 1}, {most, most, 0}, {most, most - 1, 1},
		{most + 1, 1, most - 1}, {most + 1, most, 0}, {most, most + 1, 0},
		{math.MaxInt64, 1, most - 1}, {1, math.MaxInt64, 0},
		{3, -1, 3}, {-1, 3, 0}, {-3, -5, 0}, {-5, -3, 0},
		{math.MinInt64, math.MaxInt64, 0}, {math.MaxInt64, math.MinInt64, most},
		{math.MinInt64, math.MinInt64, 0}, {math.MaxInt64, math.MaxInt64, 0},
	} {
		if got := Sub(c.a, c.b); got != c.want {
			t.Errorf("Sub(%d, %d): %d, not %d", c.a, c.b, got, c.want)
		}
	}
}

func TestMul(t *testing.T) {
	for _, c := range []struct{ a, b, want int64 }{
		{3, 4, 12}, {1, 9, 9}, {0, 5, 0}, {5, 0, 0}, {0, 0, 0},
		{0, most, 0}, {most, 0, 0}, {1, most, most}, {most, 1, most}, {most - 1, 1, most - 1},
		{2, most / 2, most}, {most / 2, 2, most}, {2, most/2 - 1, most - 2}, {2, most/2 + 1, most},
		{1 << 31, 1 << 31, most}, {1 << 31, 1<<31 - 1, most - 1<<31}, {1 << 31, 1<<31 + 1, most},
		{3, most / 3, most - 1}, {3, most/3 + 1, most},
		{1 << 32, 1 << 32, most}, {1 << 33, 1 << 31, most}, {most, most, most}, {most, 4, most},
		{most + 1, 1, most}, {1, math.MaxInt64, most}, {math.MaxInt64, math.MaxInt64, most},
		{-1, 5, 0}, {5, -1, 0}, {-3, -4, 0},
		{math.MinInt64, 1, 0}, {math.MinInt64, -1, 0}, {-1, math.MinInt64, 0},
		{math.MinInt64, math.MinInt64, 0}, {math.MaxInt64, math.MinInt64, 0},
	} {
		if got := Mul(c.a, c.b); got != c.want {
			t.Errorf("Mul(%d, %d): %d, not %d", c.a, c.b, got, c.want)
		}
	}
}

func TestUp(t *testing.T) {
	for _, c := range []struct{ a, b, want int64 }{
		{7, 2, 4}, {8, 2, 4}, {9, 2, 5}, {1, 2, 1}, {2, 2, 1}, {3, 2, 2}, {0, 2, 0},
		{7, 1, 7}, {7, 7, 1}, {7, 8, 1}, {8, 7, 2}, {1, most, 1},
		{7, 0, 0}, {0, 0, 0}, {most, 0, 0}, {math.MaxInt64, 0, 0},
		{most, 1, most}, {most, 2, most / 2}, {most - 1, 2, most / 2}, {most - 3, 2, most/2 - 1},
		{most, most, 1}, {most, most - 1, 2}, {most - 1, most, 1}, {most, 3, most/3 + 1},
		{most + 1, most, 1}, {math.MaxInt64, 1, most}, {math.MaxInt64, 2, most / 2},
		{1, math.MaxInt64, 1}, {math.MaxInt64, math.MaxInt64, 1},
		{-7, 2, 0}, {7, -2, 0}, {-7, -2, 0}, {7, math.MinInt64, 0},
		{math.MinInt64, 1, 0}, {math.MinInt64, -1, 0}, {math.MinInt64, math.MinInt64, 0},
	} {
		if got := Up(c.a, c.b); got != c.want {
			t.Errorf("Up(%d, %d): %d, not %d", c.a, c.b, got, c.want)
		}
	}
}

// counted is n as a count, worked out by numbers that have no end.
func counted(n *big.Int) *big.Int {
	if n.Sign() < 0 {
		return new(big.Int)
	}
	if bound := big.NewInt(most); n.Cmp(bound) > 0 {
		return bound
	}
	return n
}

// roundedUp is a by b, rounded up; 0, if b is 0.
func roundedUp(a, b *big.Int) *big.Int {
	if b.Sign() == 0 {
		return new(big.Int)
	}
	above := new(big.Int).Add(a, b)
	above.Sub(above, big.NewInt(1))
	return above.Div(above, b)
}

func TestAllEdgesAgainstNumbersWithoutEnd(t *testing.T) {
	for _, a := range edges() {
		x := counted(big.NewInt(a))
		if got := Count(a); got != x.Int64() {
			t.Errorf("Count(%d): %d, not %v", a, got, x)
		}
		for _, b := range edges() {
			y := counted(big.NewInt(b))
			for _, c := range []struct {
				name string
				got  int64
				want *big.Int
			}{
				{"Add", Add(a, b), new(big.Int).Add(x, y)},
				{"Sub", Sub(a, b), new(big.Int).Sub(x, y)},
				{"Mul", Mul(a, b), new(big.Int).Mul(x, y)},
				{"Up", Up(a, b), roundedUp(x, y)},
			} {
				if want := counted(c.want); c.got != want.Int64() {
					t.Errorf("%s(%d, %d): %d, not %v", c.name, a, b, c.got, want)
				}
			}
		}
	}
}

func TestAddOfThreeEdgesAgainstNumbersWithoutEnd(t *testing.T) {
	for _, a := range edges() {
		for _, b := range edges() {
			for _, c := range edges() {
				want := new(big.Int)
				for _, n := range []int64{a, b, c} {
					want.Add(want, counted(big.NewInt(n)))
				}
				if got := Add(a, b, c); got != counted(want).Int64() {
					t.Errorf("Add(%d, %d, %d): %d, not %v", a, b, c, got, counted(want))
				}
			}
		}
	}
}

func TestTheSameIsAnsweredTheSame(t *testing.T) {
	for _, a := range edges() {
		for _, b := range edges() {
			first := [5]int64{Count(a), Add(a, b), Sub(a, b), Mul(a, b), Up(a, b)}
			again := [5]int64{Count(a), Add(a, b), Sub(a, b), Mul(a, b), Up(a, b)}
			if first != again {
				t.Errorf("%d, %d: %v, and then %v", a, b, first, again)
			}
		}
	}
}
