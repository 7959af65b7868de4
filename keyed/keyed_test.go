package keyed

import (
	"math"
	"math/big"
	"math/rand"
	"slices"
	"sync"
	"testing"

	"bailiff/api"
	"bailiff/frame"
	"bailiff/sip"
)

// upKey is 0, 1, .., 15; the bytes of otherKey are all different, and in no
// order.
var (
	upKey    = [16]byte{0, 1, 2, 3, 4, 5, 6, 7, 8, 9, 10, 11, 12, 13, 14, 15}
	otherKey = [16]byte{0x5b, 2, 0xa9, 0x50, 0xf7, 0x9e, 0x45, 0xec, 0x93, 0x3a, 0xe1, 0x88, 0x2f, 0xd6, 0x7d, 0x24}
)

// Flows of noughts, of ones, and flows no two bytes of which are the same.
var (
	nought4 = api.Flow{}
	nought6 = api.Flow{V6: true}
	full4   = api.Flow{Proto: 255, Src: keyOf(0xff), Dst: keyOf(0xff), SPort: 0xffff, DPort: 0xffff}
	full6   = api.Flow{V6: true, Proto: 255, Src: keyOf(0xff), Dst: keyOf(0xff), SPort: 0xffff, DPort: 0xffff}
	flow4   = api.Flow{
		Proto: 6,
		Src:   [16]byte{10, 200, 30, 41},
		Dst:   [16]byte{192, 168, 33, 44},
		SPort: 0xc1d2, DPort: 0xe3f4,
	}
	flow6 = api.Flow{
		V6:    true,
		Proto: 58,
		Src:   [16]byte{0x20, 1, 0xd, 0xb8, 5, 6, 7, 8, 9, 10, 11, 12, 14, 15, 16, 17},
		Dst:   [16]byte{0xfe, 0x80, 0xa1, 0xa2, 0xa3, 0xa4, 0xa5, 0xa6, 0xa7, 0xa8, 0xa9, 0xaa, 0xab, 0xac, 0xad, 0xae},
		SPort: 0xc1d2, DPort: 0xe3f4,
	}
)

// some are counts of buckets and bins, with their edges; none are counts that
// aren't any.
var (
	some = []int{
		1, 2, 3, 4, 5, 7, 8, 10, 16, 63, 64, 65, 100, 127, 128, 255, 256, 257, 4096, 65535, 65536, 1000003,
		1<<31 - 1, 1 << 31, 1<<32 - 1, 1 << 32, 1<<32 + 1, 1 << 53, 1 << 62, 1<<62 + 1, math.MaxInt - 1, math.MaxInt,
	}
	none = []int{0, -1, -2, -64, -65536, -1 << 31, -1 << 32, -1 << 62, math.MinInt + 1, math.MinInt}
)

// keyOf is sixteen times one byte.
func keyOf(b byte) [16]byte {
	return [16]byte(slices.Repeat([]byte{b}, 16))
}

// drawn is a flow all of which is noise, behind IPv4 addresses too.
func drawn(draw *rand.Rand) api.Flow {
	f := api.Flow{V6: draw.Intn(2) == 0, Proto: byte(draw.Intn(256)), SPort: uint16(draw.Intn(1 << 16)), DPort: uint16(draw.Intn(1 << 16))}
	draw.Read(f.Src[:])
	draw.Read(f.Dst[:])
	return f
}

// drawnKey is a key of noise.
func drawnKey(draw *rand.Rand) [16]byte {
	var key [16]byte
	draw.Read(key[:])
	return key
}

// remainder is taken of numbers that have no highest bit.
func remainder(sum uint64, n int) int {
	return int(new(big.Int).Mod(new(big.Int).SetUint64(sum), big.NewInt(int64(n))).Int64())
}

// remainders are those of several sums.
func remainders(sums []uint64, n int) []int {
	var all []int
	for _, sum := range sums {
		all = append(all, remainder(sum, n))
	}
	return all
}

// checkBucket fails unless the flow falls into that bucket.
func checkBucket(t *testing.T, key [16]byte, f api.Flow, n, want int) {
	t.Helper()
	if got := Bucket(key, f, n); got != want {
		t.Fatalf("by %x, %v of %d: %d, not %d", key, f, n, got, want)
	}
}

// checkBins fails unless the flow falls into those bins.
func checkBins(t *testing.T, key [16]byte, f api.Flow, levels, n int, want ...int) {
	t.Helper()
	if got := Bins(key, f, levels, n); !slices.Equal(got, want) {
		t.Fatalf("by %x, %v on %d levels of %d: %d, not %d", key, f, levels, n, got, want)
	}
}

func TestTheChaptersExample(t *testing.T) {
	for _, of := range ofKeys {
		checkBucket(t, of.key, of.flow, 1, 0)
		checkBins(t, of.key, of.flow, 4, 1, 0, 0, 0, 0)
	}
	draw := rand.New(rand.NewSource(1))
	for range 1000 {
		checkBucket(t, drawnKey(draw), drawn(draw), 1, 0)
	}
}

// Buckets and bins worked out by hand from the sums of ofKeys.
func TestByHand(t *testing.T) {
	for _, c := range []struct {
		key    [16]byte
		f      api.Flow
		n      int
		bucket int
		bins   []int
	}{
		{keyOf(0), nought4, 2, 0, []int{0, 0, 1, 1}},
		{keyOf(0), nought4, 7, 5, []int{5, 0, 2, 2}},
		{keyOf(0), nought4, 64, 6, []int{12, 38, 55, 35}},
		{keyOf(0), nought4, 1000, 374, []int{956, 646, 255, 531}},
		{keyOf(0xff), full6, 2, 1, []int{1, 1, 0, 0}},
		{keyOf(0xff), full6, 64, 37, []int{23, 53, 46, 22}},
		{otherKey, flow4, 2, 1, []int{0, 1, 0, 1}},
		{otherKey, flow4, 7, 3, []int{0, 4, 1, 5}},
		{otherKey, flow4, 64, 35, []int{40, 45, 0, 3}},
		{otherKey, flow4, 1000, 331, []int{168, 589, 384, 283}},
		{otherKey, flow4, math.MaxInt, 530594604181319331, []int{7203941715880592361, 8234456609853212589, 4529766162017112577, 2949180399738697283}},
		{upKey, flow6, 7, 4, []int{5, 6, 2, 3}},
		{upKey, flow6, 64, 61, []int{47, 16, 59, 29}},
		{upKey, flow6, 1000, 93, []int{951, 840, 411, 141}},
		{upKey, flow6, math.MaxInt, 8164059233309852093, []int{4904837788241012144, 2299132268949685840, 5786972598885940604, 1450353286336138334}},
	} {
		checkBucket(t, c.key, c.f, c.n, c.bucket)
		for levels := range 5 {
			checkBins(t, c.key, c.f, levels, c.n, c.bins[:levels]...)
		}
	}
}

func TestBucketsOfEachCount(t *testing.T) {
	for _, of := range ofKeys {
		for _, n := range some {
			checkBucket(t, of.key, of.flow, n, remainder(of.sums[0], n))
		}
		for n := 1; n <= 300; n++ {
			checkBucket(t, of.key, of.flow, n, remainder(of.sums[0], n))
		}
	}
}

func TestBinsOfEachCount(t *testing.T) {
	for _, of := range ofKeys {
		for _, n := range some {
			want := remainders(of.sums[1:], n)
			for levels := 1; levels <= 4; levels++ {
				checkBins(t, of.key, of.flow, levels, n, want[:levels]...)
			}
		}
		for n := 1; n <= 300; n++ {
			checkBins(t, of.key, of.flow, 4, n, remainders(of.sums[1:], n)...)
		}
	}
}

func TestBucketsOfFewerThanOne(t *testing.T) {
	for _, of := range ofKeys {
		for _, n := range none {
			checkBucket(t, of.key, of.flow, n, 0)
		}
	}
}

// There are as many noughts as there would be bins.
func TestBinsOfFewerThanOne(t *testing.T) {
	for _, of := range ofKeys {
		for _, n := range none {
			for levels := range 5 {
				checkBins(t, of.key, of.flow, levels, n, make([]int, levels)...)
			}
			for _, levels := range []int{5, 6, 64, 256, math.MaxInt} {
				checkBins(t, of.key, of.flow, levels, n, 0, 0, 0, 0)
			}
			for _, levels := range none {
				checkBins(t, of.key, of.flow, levels, n)
			}
		}
	}
}

func TestFewerLevelsThanOne(t *testing.T) {
	for _, of := range ofKeys {
		for _, levels := range none {
			for _, n := range some {
				checkBins(t, of.key, of.flow, levels, n)
			}
		}
	}
}

// Numbers that a byte, or another shorter one, doesn't hold are among them.
func TestMoreLevelsThanThereAre(t *testing.T) {
	if api.MaxLevels != 4 {
		t.Fatal(api.MaxLevels)
	}
	for _, of := range ofKeys {
		for _, levels := range []int{4, 5, 6, 8, 64, 255, 256, 257, 65536, 1 << 31, 1 << 32, 1<<32 + 1, 1 << 62, math.MaxInt - 1, math.MaxInt} {
			for _, n := range some {
				checkBins(t, of.key, of.flow, levels, n, remainders(of.sums[1:], n)...)
			}
		}
	}
}

func TestTheFirstLevelsStay(t *testing.T) {
	draw := rand.New(rand.NewSource(2))
	for range 2000 {
		key, f, n := drawnKey(draw), drawn(draw), 1+draw.Intn(1000)
		all := Bins(key, f, 9, n)
		for levels := range 5 {
			checkBins(t, key, f, levels, n, all[:levels]...)
		}
	}
}

// A remainder of the sum as a number with a sign would be another one, and
// often below 0.
func TestSumsWithTheHighestBit(t *testing.T) {
	high, differ := 0, 0
	for _, of := range ofKeys {
		for what, sum := range of.sums {
			if sum>>63 == 0 {
				continue
			}
			high++
			for _, n := range some {
				got := Bucket(of.key, of.flow, n)
				if what > 0 {
					got = Bins(of.key, of.flow, 4, n)[what-1]
				}
				if got < 0 || got >= n || got != remainder(sum, n) {
					t.Fatalf("%016x of %d: %d", sum, n, got)
				}
				if signed := int64(sum) % int64(n); int64(got) != signed && int64(got) != -signed {
					differ++
				}
			}
		}
	}
	if high < 20 || differ < 100 {
		t.Fatalf("%d sums with the highest bit, %d remainders that tell it", high, differ)
	}
}

// What is made of the layers below, whatever the flow.
func TestAsTheLayersBelowSay(t *testing.T) {
	draw := rand.New(rand.NewSource(3))
	for range 5000 {
		key, f := drawnKey(draw), drawn(draw)
		n := 1 + int(draw.Uint64()>>1>>draw.Intn(63))
		if n < 1 {
			n = math.MaxInt
		}
		var sums []uint64
		for what := range 5 {
			sums = append(sums, sip.Sum(key, frame.Key(f), []byte{byte(what)}))
		}
		checkBucket(t, key, f, n, remainder(sums[0], n))
		checkBins(t, key, f, 4, n, remainders(sums[1:], n)...)
	}
}

func TestWhatStandsBehindAnIPv4Address(t *testing.T) {
	draw := rand.New(rand.NewSource(4))
	for _, f := range []api.Flow{nought4, full4, flow4} {
		for _, n := range []int{64, math.MaxInt} {
			bucket, bins := Bucket(otherKey, f, n), Bins(otherKey, f, 4, n)
			for at := 4; at < 16; at++ {
				for range 50 {
					other := f
					other.Src[at] = byte(draw.Intn(256))
					checkBucket(t, otherKey, other, n, bucket)
					checkBins(t, otherKey, other, 4, n, bins...)
					other.Dst[draw.Intn(12)+4] = byte(draw.Intn(256))
					checkBucket(t, otherKey, other, n, bucket)
					checkBins(t, otherKey, other, 4, n, bins...)
				}
			}
		}
	}
}

// changes are the flow with one bit of it changed, each bit that tells.
func changes(f api.Flow) []api.Flow {
	size := 4
	if f.V6 {
		size = 16
	}
	var all []api.Flow
	change := func(by func(g *api.Flow)) {
		g := f
		by(&g)
		all = append(all, g)
	}
	change(func(g *api.Flow) { g.V6 = !g.V6 })
	for bit := range 8 {
		change(func(g *api.Flow) { g.Proto ^= 1 << bit })
	}
	for bit := range 16 {
		change(func(g *api.Flow) { g.SPort ^= 1 << bit })
		change(func(g *api.Flow) { g.DPort ^= 1 << bit })
	}
	for bit := range 8 * size {
		change(func(g *api.Flow) { g.Src[bit/8] ^= 1 << (bit % 8) })
		change(func(g *api.Flow) { g.Dst[bit/8] ^= 1 << (bit % 8) })
	}
	change(func(g *api.Flow) { g.Src, g.Dst, g.SPort, g.DPort = g.Dst, g.Src, g.DPort, g.SPort })
	return all
}

// Of so many that no two need fall into one, each bit of the flow makes them
// fall elsewhere, and so does each bit of the key.
func TestEachBitTells(t *testing.T) {
	for _, f := range []api.Flow{flow4, flow6} {
		seen := map[int]int{}
		tell := func(key [16]byte, f api.Flow) {
			seen[Bucket(key, f, math.MaxInt)]++
			for _, bin := range Bins(key, f, 4, math.MaxInt) {
				seen[bin]++
			}
		}
		tell(otherKey, f)
		all := changes(f)
		for _, g := range all {
			tell(otherKey, g)
		}
		for bit := range 128 {
			key := otherKey
			key[bit/8] ^= 1 << (bit % 8)
			tell(key, f)
		}
		if len(seen) != 5*(1+len(all)+128) {
			t.Errorf("%v: %d, not %d", f, len(seen), 5*(1+len(all)+128))
		}
	}
}

// Who shares a bucket, or a bin, doesn't share the others more than by chance:
// all pairs of two of them are met, and about as often.
func TestBucketsAndLevelsAreApart(t *testing.T) {
	const n, flows = 8, 64 * 200
	var pairs [5][5][n * n]int
	f := flow4
	for k := range flows {
		f.SPort = uint16(k)
		falls := append([]int{Bucket(upKey, f, n)}, Bins(upKey, f, 4, n)...)
		for a, x := range falls {
			for b, y := range falls {
				pairs[a][b][x*n+y]++
			}
		}
	}
	for a := range pairs {
		for b := range a {
			for pair, times := range pairs[a][b] {
				if times < 100 || times > 300 {
					t.Errorf("%d and %d: %d times %d", a, b, times, pair)
				}
			}
		}
	}
}

// What is done to one answer, its spare room too, is in no other one.
func TestAnAnswerIsNewMemory(t *testing.T) {
	for _, n := range []int{64, math.MaxInt, 1, 0, -1} {
		for _, levels := range []int{-1, 0, 1, 2, 3, 4, 5, math.MaxInt} {
			first := Bins(otherKey, flow6, levels, n)
			second := Bins(otherKey, flow6, levels, n)
			want := slices.Clone(first)
			spoil := first[:cap(first)]
			for k := range spoil {
				spoil[k] = -7
			}
			_ = append(first, -7, -7, -7, -7, -7)
			if !slices.Equal(second, want) {
				t.Fatalf("%d of %d: %d, not %d", levels, n, second, want)
			}
			checkBins(t, otherKey, flow6, levels, n, want...)
		}
	}
}

// Nothing is kept from call to call, and several may ask at once.
func TestTheSameIsAnsweredTheSame(t *testing.T) {
	var all sync.WaitGroup
	for worker := range 8 {
		all.Go(func() {
			for k := range 20 * len(ofKeys) {
				of := ofKeys[(k*(2*worker+1)+worker)%len(ofKeys)]
				n := some[(k+worker)%len(some)]
				if Bucket(of.key, of.flow, n) != remainder(of.sums[0], n) {
					t.Errorf("bucket of %v", of)
				}
				if !slices.Equal(Bins(of.key, of.flow, 4, n), remainders(of.sums[1:], n)) {
					t.Errorf("bins of %v", of)
				}
			}
		})
	}
	all.Wait()
}

// Whatever the numbers, the answer is within them.
func TestWhateverNumbers(t *testing.T) {
	draw := rand.New(rand.NewSource(5))
	number := func() int {
		n := int(draw.Uint64()) >> draw.Intn(64)
		if draw.Intn(8) == 0 {
			n = none[draw.Intn(len(none))]
		}
		return n
	}
	for range 20000 {
		key, f, levels, n := drawnKey(draw), drawn(draw), number(), number()
		if got := Bucket(key, f, n); got < 0 || got >= max(n, 1) {
			t.Fatalf("of %d: %d", n, got)
		}
		bins := Bins(key, f, levels, n)
		if len(bins) != max(0, min(levels, 4)) {
			t.Fatalf("%d levels: %d", levels, bins)
		}
		for _, bin := range bins {
			if bin < 0 || bin >= max(n, 1) {
				t.Fatalf("of %d: %d", n, bins)
			}
		}
	}
}
