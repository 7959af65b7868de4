package blue

import (
	"math"
	"math/big"
	"math/rand"
	"slices"
	"testing"

	"bailiff/api"
)

// The limits as the document writes them, so that a test doesn't take them
// from where the program does.
const (
	topLevels = 4
	topBins   = 64
	topBytes  = int64(1) << 30
	topTime   = int64(1)<<62 - 1
	topCount  = int64(1) << 62
	certain   = 65536
	lowest    = int64(math.MinInt64)
	highest   = int64(math.MaxInt64)
)

// Numbers of bytes that may be put, taken or a target, and such that may not.
var (
	rightBytes = []int64{0, 1, 2, 10, 1 << 20, topBytes - 1, topBytes}
	wrongBytes = []int64{
		lowest, lowest + 1, -topBytes, -1 << 32, -10, -1,
		topBytes + 1, topBytes + 2, 1<<32 + 1, topCount, highest,
	}
)

// Numbers by which a probability may change, and such by which it may not.
var (
	rightSteps = []int{0, 1, 2, 100, certain / 2, certain - 1, certain}
	wrongSteps = []int{
		math.MinInt, math.MinInt + 1, -certain, -1 << 32, -100, -1,
		certain + 1, certain + 2, 1<<32 + 1, math.MaxInt,
	}
)

// Moments at the edges.
var moments = []int64{
	lowest, lowest + 1, -topTime, -5, -1, 0, 1, 2, 5, 1 << 40,
	topTime - 1, topTime, topTime + 1, topTime + 2, highest - 1, highest,
}

// rules are what a bin is touched by.
type rules struct {
	target   int64
	up, down int
}

func (r rules) may() bool {
	return r.target >= 0 && r.target <= topBytes && r.up >= 0 && r.up <= certain && r.down >= 0 && r.down <= certain
}

// event is what was done to one bin: so many bytes more (or less), or a touch.
type event struct {
	bytes int64
	touch bool
	now   int64
	rules rules
}

// plain is a plain second way: of each bin all is kept that was ever done to
// it, and what it has is worked out anew from that, in big numbers.
type plain struct {
	levels, bins int
	hold         int64
	rules        rules
	done         map[[2]int][]event
}

// nearest is the time that is nearest to n.
func nearest(n int64) *big.Int {
	if n < 0 {
		return big.NewInt(0)
	}
	if n > topTime {
		return big.NewInt(topTime)
	}
	return big.NewInt(n)
}

// within is n, but not below 0, and not above most.
func within(n *big.Int, most int64) *big.Int {
	if n.Sign() < 0 {
		return big.NewInt(0)
	}
	if top := big.NewInt(most); n.Cmp(top) > 0 {
		return top
	}
	return n
}

// bin is what a bin has, and its probability.
func (p *plain) bin(level, k int) (int64, int) {
	bytes, probability, changed := big.NewInt(0), big.NewInt(0), big.NewInt(0)
	for _, e := range p.done[[2]int{level, k}] {
		if !e.touch {
			bytes = within(new(big.Int).Add(bytes, big.NewInt(e.bytes)), topCount)
			continue
		}
		now := nearest(e.now)
		if early := new(big.Int).Sub(now, changed); early.Cmp(big.NewInt(p.hold)) < 0 {
			continue
		}
		if bytes.Cmp(big.NewInt(e.rules.target)) > 0 {
			probability = within(new(big.Int).Add(probability, big.NewInt(int64(e.rules.up))), certain)
			changed = now
		} else if bytes.Sign() == 0 {
			probability = within(new(big.Int).Sub(probability, big.NewInt(int64(e.rules.down))), certain)
			changed = now
		}
	}
	return bytes.Int64(), int(probability.Int64())
}

func (p *plain) isFlow(bins []int) bool {
	if len(bins) != p.levels {
		return false
	}
	return !slices.ContainsFunc(bins, func(k int) bool { return k < 0 || k >= p.bins })
}

// do notes an event of each of a flow's bins.
func (p *plain) do(bins []int, e event) bool {
	if !p.isFlow(bins) {
		return false
	}
	for level, k := range bins {
		at := [2]int{level, k}
		p.done[at] = append(p.done[at], e)
	}
	return true
}

func (p *plain) mark(bins []int) int {
	if !p.isFlow(bins) {
		return 0
	}
	var all []int
	for level, k := range bins {
		_, probability := p.bin(level, k)
		all = append(all, probability)
	}
	slices.Sort(all)
	return all[0]
}

// pair is a blue and a plain second one. Each step is done to both, and all
// that the blue says of itself is held against the other behind it.
type pair struct {
	t     *testing.T
	blue  *Blue
	plain plain
}

func newPair(t *testing.T, levels, bins int, target, hold int64, up, down int) *pair {
	t.Helper()
	b, e := New(levels, bins, target, hold, up, down)
	if b == nil || e != api.OK {
		t.Fatalf("New(%d, %d, %d, %d, %d, %d): %v, %v", levels, bins, target, hold, up, down, b, e)
	}
	p := &pair{t: t, blue: b, plain: plain{levels, bins, hold, rules{target, up, down}, map[[2]int][]event{}}}
	p.check()
	return p
}

func (p *pair) put(bins []int, n int64) bool {
	p.t.Helper()
	want := n >= 0 && n <= topBytes && p.plain.do(bins, event{bytes: n})
	return p.told("Put", bins, n, p.blue.Put(bins, n), want)
}

func (p *pair) take(bins []int, n int64) bool {
	p.t.Helper()
	want := n >= 0 && n <= topBytes && p.plain.do(bins, event{bytes: -n})
	return p.told("Take", bins, n, p.blue.Take(bins, n), want)
}

func (p *pair) touch(bins []int, now int64) bool {
	p.t.Helper()
	want := p.plain.do(bins, event{touch: true, now: now, rules: p.plain.rules})
	return p.told("Touch", bins, now, p.blue.Touch(bins, now), want)
}

func (p *pair) told(call string, bins []int, n int64, got, want bool) bool {
	p.t.Helper()
	if got != want {
		p.t.Fatalf("%s(%v, %d): %v", call, bins, n, got)
	}
	p.check()
	return got
}

func (p *pair) clear() {
	p.t.Helper()
	p.blue.Clear()
	p.plain.done = map[[2]int][]event{}
	p.check()
}

func (p *pair) tune(target int64, up, down int) bool {
	p.t.Helper()
	r := rules{target, up, down}
	if r.may() {
		p.plain.rules = r
	}
	got := p.blue.Tune(target, up, down)
	if got != r.may() {
		p.t.Fatalf("Tune(%d, %d, %d): %v", target, up, down, got)
	}
	p.check()
	return got
}

// is holds a bin against what it ought to be, written by hand.
func (p *pair) is(level, k int, bytes int64, probability int) {
	p.t.Helper()
	if n, x := p.blue.Bin(level, k); n != bytes || x != probability {
		p.t.Fatalf("Bin(%d, %d): %d and %d, not %d and %d", level, k, n, x, bytes, probability)
	}
}

// marks holds a flow's mark against what it ought to be.
func (p *pair) marks(bins []int, want int) {
	p.t.Helper()
	if got := p.blue.Mark(bins); got != want {
		p.t.Fatalf("Mark(%v): %d, not %d", bins, got, want)
	}
}

// check asks for everything twice, as to be asked must change nothing.
func (p *pair) check() {
	p.t.Helper()
	for range 2 {
		for level := range p.plain.levels {
			for k := range p.plain.bins {
				bytes, probability := p.plain.bin(level, k)
				p.is(level, k, bytes, probability)
			}
		}
		for step := range 3 {
			bins := p.flow(step, step)
			p.marks(bins, p.plain.mark(bins))
		}
	}
}

// flow is the bins of one flow: on level 0 the k-th, and on each further one so
// many more.
func (p *pair) flow(k, step int) []int { return flow(p.plain.levels, p.plain.bins, k, step) }

func flow(levels, bins, k, step int) []int {
	var l []int
	for level := range levels {
		l = append(l, (k+level*step)%bins)
	}
	return l
}

// alone brings one bin's bytes to n, whatever it had: what its flow's others
// have then isn't told.
func (p *pair) alone(bins []int, n int64) {
	p.t.Helper()
	p.take(bins, topBytes)
	p.put(bins, n)
}

func TestNew(t *testing.T) {
	ints := func(least, most int) []int { return []int{math.MinInt, -1, 0, 1, least, most, most + 1, math.MaxInt} }
	longs := func(most int64) []int64 { return []int64{lowest, -1, 0, 1, most, most + 1, highest} }
	for _, levels := range ints(1, topLevels) {
		for _, bins := range ints(1, topBins) {
			for _, target := range longs(topBytes) {
				for _, hold := range longs(topTime) {
					for _, up := range ints(0, certain) {
						for _, down := range ints(0, certain) {
							want := levels >= 1 && levels <= 4 && bins >= 1 && bins <= 64 &&
								hold >= 0 && hold <= topTime && rules{target, up, down}.may()
							made(t, levels, bins, target, hold, up, down, want)
						}
					}
				}
			}
		}
	}
}

// made ends the test unless New of these answers as it ought to.
func made(t *testing.T, levels, bins int, target, hold int64, up, down int, want bool) {
	t.Helper()
	b, e := New(levels, bins, target, hold, up, down)
	if want != (b != nil) || want != (e == api.OK) || !want && e != api.ErrArg {
		t.Fatalf("New(%d, %d, %d, %d, %d, %d): %v, %v", levels, bins, target, hold, up, down, b, e)
	}
}

func TestNewOfFurtherNumbers(t *testing.T) {
	for _, n := range []int{math.MinInt + 1, math.MinInt32, -64, -4, 5, 6, 64, 1 << 16, 1<<32 + 1, math.MaxInt32} {
		made(t, n, 1, 0, 0, 0, 0, false)
	}
	for _, n := range []int{math.MinInt + 1, math.MinInt32, -64, -4, 65, 66, 1 << 16, 1<<32 + 1, math.MaxInt32} {
		made(t, 1, n, 0, 0, 0, 0, false)
	}
	for _, n := range wrongBytes {
		made(t, 1, 1, n, 0, 0, 0, false)
	}
	for _, n := range []int64{lowest + 1, -topTime, -1 << 32, topTime + 2, highest - 1} {
		made(t, 1, 1, 0, n, 0, 0, false)
	}
	for _, n := range wrongSteps {
		made(t, 1, 1, 0, 0, n, 0, false)
		made(t, 1, 1, 0, 0, 0, n, false)
	}
	for _, n := range rightSteps {
		made(t, 1, 1, 0, 0, n, 1, true)
		made(t, 1, 1, 0, 0, 1, n, true)
	}
}

// There are as many levels as were asked for, and as many bins on each.
func TestANewOneIsEmpty(t *testing.T) {
	for levels := 1; levels <= topLevels; levels++ {
		for bins := 1; bins <= topBins; bins++ {
			b, _ := New(levels, bins, 10, 0, 100, 1)
			for level := range topLevels + 1 {
				for k := range topBins + 1 {
					if n, x := b.Bin(level, k); n != 0 || x != 0 {
						t.Fatalf("New(%d, %d, ..): Bin(%d, %d): %d, %d", levels, bins, level, k, n, x)
					}
				}
			}
			for k := range topBins + 1 {
				l := slices.Repeat([]int{k}, levels)
				if b.Mark(l) != 0 || b.Put(l, 1) != (k < bins) {
					t.Fatalf("New(%d, %d, ..): the flow %v", levels, bins, l)
				}
			}
			for level := range topLevels + 1 {
				for k := range topBins + 1 {
					want := int64(0)
					if level < levels && k < bins {
						want = 1
					}
					if n, x := b.Bin(level, k); n != want || x != 0 {
						t.Fatalf("New(%d, %d, ..): Bin(%d, %d): %d, %d", levels, bins, level, k, n, x)
					}
				}
			}
		}
	}
}

// worn is a blue in which bins have unlike bytes and unlike probabilities, and
// may be touched again from 50 on.
func worn(t *testing.T, levels, bins int) *pair {
	t.Helper()
	p := newPair(t, levels, bins, 10, 10, 300, 100)
	p.put(p.flow(0, 1), 25)
	p.put(p.flow(1, 2), 8)
	p.put(p.flow(2, 0), 11)
	for _, now := range []int64{20, 30, 40} {
		p.touch(p.flow(0, 1), now)
		p.touch(p.flow(2, 0), now)
		p.put(p.flow(2, 1), now)
	}
	p.take(p.flow(2, 0), 11)
	return p
}

// strangers are lists that are no flow's, of so many levels and bins.
func strangers(levels, bins int) [][]int {
	l := [][]int{nil, {}, make([]int, 0, levels)}
	for n := range 2*levels + 3 {
		if n != levels {
			l = append(l, make([]int, n), slices.Repeat([]int{bins - 1}, n))
		}
	}
	for level := range levels {
		for _, k := range []int{math.MinInt, math.MinInt + 1, -64, -1, bins, bins + 1, topBins, 1 << 16, 1 << 32, math.MaxInt} {
			list := slices.Repeat([]int{bins - 1}, levels)
			list[level] = k
			l = append(l, list)
		}
	}
	l = append(l, slices.Repeat([]int{-1}, levels), slices.Repeat([]int{bins}, levels))
	return append(l, make([]int, 1<<16))
}

func TestListsThatAreNoFlows(t *testing.T) {
	for levels := 1; levels <= topLevels; levels++ {
		for _, bins := range []int{1, 2, 3, topBins - 1, topBins} {
			p := worn(t, levels, bins)
			for _, l := range strangers(levels, bins) {
				if p.plain.isFlow(l) {
					t.Fatalf("%v is a flow's", l)
				}
				for _, n := range []int64{0, 1, 7, 50, 1000, topBytes, topTime} {
					if p.blue.Put(l, n) || p.blue.Take(l, n) || p.blue.Touch(l, n) || p.blue.Mark(l) != 0 {
						t.Fatalf("of %d levels, %d bins: %v, %d", levels, bins, l, n)
					}
				}
				p.marks(l, 0)
			}
			p.check()
			// Nor was the moment changed.
			for k := range bins {
				p.touch(slices.Repeat([]int{k}, levels), 49)
				p.touch(slices.Repeat([]int{k}, levels), 50)
			}
		}
	}
}

// A list whose first bins are right changes not even these.
func TestAListThatIsWrongAtItsEnd(t *testing.T) {
	p := newPair(t, 3, 4, 0, 0, 7, 3)
	p.put([]int{1, 2, 3}, 5)
	for _, l := range [][]int{{1, 2, 4}, {1, 2, -1}, {1, 2}, {1, 2, 3, 0}, {1, 2, 3, 4}, {1}, {1, 2, math.MaxInt}, {1, 2, math.MinInt}} {
		if p.put(l, 5) || p.take(l, 5) || p.touch(l, 5) {
			t.Error(l)
		}
		p.marks(l, 0)
	}
	for level, k := range []int{1, 2, 3} {
		p.is(level, k, 5, 0)
	}
}

// Each list of as many numbers as there are levels is a flow's.
func TestEachListThatIsAFlows(t *testing.T) {
	p := newPair(t, 3, 4, 5, 0, 7, 3)
	for k := range 64 {
		l := []int{k % 4, k / 4 % 4, k / 16}
		if !p.put(l, int64(k)) || !p.touch(l, 1) || !p.take(l, int64(k)/2) || !p.touch(l, 1) {
			t.Error(l)
		}
		p.marks(l, p.plain.mark(l))
	}
}

func TestPut(t *testing.T) {
	for _, n := range rightBytes {
		p := newPair(t, 3, 3, 10, 0, 5, 5)
		if !p.put([]int{0, 2, 1}, n) {
			t.Errorf("Put(.., %d)", n)
		}
		for level, k := range []int{0, 2, 1} {
			p.is(level, k, n, 0)
			p.is(level, (k+1)%3, 0, 0)
			p.is(level, (k+2)%3, 0, 0)
		}
		// On level 0 it is the same bin, on the others it isn't.
		p.put([]int{0, 1, 0}, 3)
		p.is(0, 0, n+3, 0)
		p.is(1, 1, 3, 0)
		p.is(1, 2, n, 0)
		p.is(2, 0, 3, 0)
		p.is(2, 1, n, 0)
	}
}

func TestPutAndTakeOfWrongNumbers(t *testing.T) {
	p := worn(t, 3, 4)
	for _, n := range wrongBytes {
		for k := range 4 {
			if p.put(p.flow(k, 1), n) || p.take(p.flow(k, 1), n) {
				t.Errorf("%d", n)
			}
		}
	}
}

// Bytes come to MaxCount only behind 2^32 Puts, so they are set ahead of them.
func TestPutEndsAtMaxCount(t *testing.T) {
	for _, c := range []struct{ had, n, want int64 }{
		{topCount - 5, 4, topCount - 1}, {topCount - 5, 5, topCount}, {topCount - 5, 6, topCount},
		{topCount - topBytes, topBytes, topCount}, {topCount - topBytes, topBytes - 1, topCount - 1},
		{topCount, 0, topCount}, {topCount, 1, topCount}, {topCount, topBytes, topCount},
	} {
		b, _ := New(2, 2, 10, 0, 5, 5)
		b.levels[1][0].bytes = c.had
		if !b.Put([]int{1, 0}, c.n) {
			t.Fatal(c)
		}
		if n, _ := b.Bin(1, 0); n != c.want {
			t.Errorf("%d and %d: %d, not %d", c.had, c.n, n, c.want)
		}
		if n, _ := b.Bin(0, 1); n != c.n {
			t.Errorf("beside it: %d, not %d", n, c.n)
		}
		if !b.Touch([]int{1, 0}, 0) || !b.Take([]int{1, 0}, 3) {
			t.Fatal(c)
		}
		if n, x := b.Bin(1, 0); n != c.want-3 || x != 5 {
			t.Errorf("%d and %d: then %d, %d", c.had, c.n, n, x)
		}
	}
}

func TestManyPuts(t *testing.T) {
	p := newPair(t, 2, 2, 10, 0, 5, 5)
	for k := range int64(50) {
		p.put([]int{0, 1}, topBytes)
		p.is(0, 0, (k+1)*topBytes, 0)
	}
	for k := range int64(51) {
		p.take([]int{0, 1}, topBytes)
		p.is(1, 1, max(49-k, 0)*topBytes, 0)
	}
}

func TestTake(t *testing.T) {
	for _, had := range rightBytes {
		for _, n := range append([]int64{had - 1, had + 1, had / 2}, rightBytes...) {
			if n < 0 || n > topBytes {
				continue
			}
			p := newPair(t, 2, 2, 10, 0, 5, 5)
			p.put([]int{0, 1}, had)
			p.put([]int{1, 0}, 4)
			if !p.take([]int{0, 1}, n) {
				t.Errorf("Take(.., %d) of %d", n, had)
			}
			p.is(0, 0, max(had-n, 0), 0)
			p.is(1, 1, max(had-n, 0), 0)
			p.is(0, 1, 4, 0)
			p.is(1, 0, 4, 0)
		}
	}
}

// Each bin of one flow loses what it has, at most.
func TestTakeOfUnlikeBins(t *testing.T) {
	for n := range int64(25) {
		p := newPair(t, 3, 2, 10, 0, 5, 5)
		p.put([]int{0, 0, 0}, 5)
		p.put([]int{1, 0, 0}, 7)
		p.put([]int{1, 1, 0}, 8)
		p.take([]int{0, 0, 0}, n)
		for level, had := range []int64{5, 12, 20} {
			p.is(level, 0, max(had-n, 0), 0)
		}
		for level, had := range []int64{15, 8, 0} {
			p.is(level, 1, had, 0)
		}
	}
}

// What is put or taken changes no probability, and none of the moments.
func TestPutAndTakeChangeNoProbability(t *testing.T) {
	p := worn(t, 2, 3)
	var before [2][3]int
	for level := range 2 {
		for k := range 3 {
			_, before[level][k] = p.blue.Bin(level, k)
		}
	}
	for k := range 9 {
		p.put([]int{k % 3, k / 3}, int64(k))
		p.take([]int{k / 3, k % 3}, 3)
		p.put([]int{k % 3, k / 3}, 0)
		p.take([]int{k / 3, k % 3}, topBytes)
	}
	for level := range 2 {
		for k := range 3 {
			if _, x := p.blue.Bin(level, k); x != before[level][k] {
				t.Errorf("Bin(%d, %d): %d, not %d", level, k, x, before[level][k])
			}
		}
	}
	p.touch([]int{0, 1}, 49)
	p.touch([]int{0, 1}, 50)
}

func TestTouchAsInTheChapter(t *testing.T) {
	for levels := 1; levels <= topLevels; levels++ {
		p := newPair(t, levels, 8, 10, 0, 100, 1)
		l := p.flow(3, 1)
		p.put(l, 11)
		p.touch(l, 0)
		p.marks(l, 100)
		for level := range levels {
			p.is(level, l[level], 11, 100)
		}
	}
}

func TestTouchByBytes(t *testing.T) {
	for _, target := range []int64{0, 1, 2, 10, topBytes - 1, topBytes} {
		for _, bytes := range []int64{0, 1, 2, target - 1, target, target + 1, target + 2, 2*target + 1} {
			if bytes < 0 {
				continue
			}
			want := 1000
			if bytes == 0 {
				want = 1000 - 7
			}
			if bytes > target {
				want = 1000 + 50
			}
			p := newPair(t, 1, 2, 0, 0, 1000, 7)
			p.put([]int{1}, 1)
			p.touch([]int{1}, 5)
			p.tune(target, 50, 7)
			p.take([]int{1}, 1)
			for left := bytes; left > 0; left -= topBytes {
				p.put([]int{1}, min(left, topBytes))
			}
			p.touch([]int{1}, 6)
			p.is(0, 1, bytes, want)
			p.is(0, 0, 0, 0)
		}
	}
}

// Of a target of 0 each bin is above it, or has nothing.
func TestATargetOfNone(t *testing.T) {
	p := newPair(t, 1, 1, 0, 0, 100, 30)
	for k, c := range []struct {
		n    int64
		want int
	}{{0, 0}, {1, 100}, {0, 70}, {0, 40}, {topBytes, 140}, {1, 240}, {0, 210}} {
		p.alone([]int{0}, c.n)
		p.touch([]int{0}, int64(k))
		p.is(0, 0, c.n, c.want)
	}
}

// Each bin is touched by its own bytes, whatever the others have.
func TestTouchOfUnlikeBins(t *testing.T) {
	p := newPair(t, 3, 2, 10, 0, 100, 30)
	p.put([]int{0, 0, 0}, 11)
	p.touch([]int{0, 0, 0}, 1)
	p.take([]int{0, 1, 1}, 11)
	p.take([]int{1, 0, 1}, 5)
	p.touch([]int{0, 0, 0}, 2)
	p.is(0, 0, 0, 70)
	p.is(1, 0, 6, 100)
	p.is(2, 0, 11, 200)
	for level := range 3 {
		p.is(level, 1, 0, 0)
	}
	p.marks([]int{0, 0, 0}, 70)
	p.marks([]int{1, 0, 0}, 0)
}

// holds are lengths of time, at the edges.
var holds = []int64{0, 1, 2, 5, 1000, 1 << 40, topTime / 2, topTime - 1, topTime}

// busy is a blue of one bin that is above its target, changed last at a moment
// (or never, if that is 0), and its probability.
func busy(t *testing.T, hold, at int64) (*pair, int) {
	t.Helper()
	p := newPair(t, 1, 1, 0, hold, 10, 1)
	p.put([]int{0}, 5)
	if at == 0 {
		return p, 0
	}
	p.touch([]int{0}, at)
	p.is(0, 0, 5, 10)
	return p, 10
}

func TestHold(t *testing.T) {
	for _, hold := range holds {
		for _, at := range []int64{0, hold, hold + 1, hold + 7, 2 * hold, 1 << 50, topTime - hold - 1, topTime - hold, topTime - 1, topTime} {
			if at < 0 || at > topTime || at > 0 && at < hold {
				continue
			}
			for _, d := range []int64{-2, -1, 0, 1, 2} {
				p, had := busy(t, hold, at)
				now := at + hold + d
				if now < 0 || now > topTime {
					continue
				}
				want := had
				if d >= 0 {
					want += 10
				}
				p.touch([]int{0}, now)
				p.is(0, 0, 5, want)
			}
		}
	}
}

// A touch that is too early isn't a change, and doesn't put the next one off.
func TestATouchThatIsTooEarly(t *testing.T) {
	for _, hold := range []int64{2, 5, 1000, 1 << 40} {
		p, _ := busy(t, hold, hold)
		for _, now := range []int64{hold, hold + 1, 2*hold - 1, 2*hold - 2, 0, -1, lowest, 2*hold - 1} {
			p.touch([]int{0}, now)
			p.is(0, 0, 5, 10)
		}
		p.touch([]int{0}, 2*hold)
		p.is(0, 0, 5, 20)
		p.touch([]int{0}, 3*hold-1)
		p.is(0, 0, 5, 20)
		p.touch([]int{0}, 3*hold+1)
		p.is(0, 0, 5, 30)
		p.touch([]int{0}, 4*hold)
		p.is(0, 0, 5, 30)
		p.touch([]int{0}, 4*hold+1)
		p.is(0, 0, 5, 40)
	}
}

// Nor is one while there are bytes, but not above the target.
func TestATouchBetweenNoneAndTheTarget(t *testing.T) {
	for _, hold := range []int64{1, 5, 1000, 1 << 40} {
		for bytes := int64(1); bytes <= 4; bytes++ {
			for _, c := range []struct {
				bytes int64
				want  int
			}{{5, 20}, {0, 7}} {
				p := newPair(t, 1, 1, 4, hold, 10, 3)
				p.put([]int{0}, 5)
				p.touch([]int{0}, hold)
				p.alone([]int{0}, bytes)
				for _, now := range []int64{2 * hold, 3*hold - 1, 2*hold + 1, 100 * hold} {
					p.touch([]int{0}, now)
					p.is(0, 0, bytes, 10)
				}
				p.alone([]int{0}, c.bytes)
				p.touch([]int{0}, 2*hold-1)
				p.is(0, 0, c.bytes, 10)
				p.touch([]int{0}, 2*hold)
				p.is(0, 0, c.bytes, c.want)
			}
		}
	}
	// If nothing is to be held, a moment ahead of that touch isn't too early.
	p := newPair(t, 1, 1, 4, 0, 10, 3)
	p.put([]int{0}, 5)
	p.touch([]int{0}, 50)
	p.alone([]int{0}, 4)
	p.touch([]int{0}, 100)
	p.alone([]int{0}, 5)
	p.touch([]int{0}, 49)
	p.is(0, 0, 5, 10)
	p.touch([]int{0}, 50)
	p.is(0, 0, 5, 20)
}

// If nothing is to be held, each touch at the same moment is a change; a moment
// ahead of it is too early, though.
func TestNothingToBeHeld(t *testing.T) {
	p, _ := busy(t, 0, 100)
	for k := range 5 {
		p.touch([]int{0}, 100)
		p.is(0, 0, 5, 20+10*k)
	}
	for _, now := range []int64{99, 50, 1, 0, -1, lowest} {
		p.touch([]int{0}, now)
		p.is(0, 0, 5, 60)
	}
	p.touch([]int{0}, 101)
	p.touch([]int{0}, 100)
	p.touch([]int{0}, 101)
	p.is(0, 0, 5, 80)
}

// So it is, however much is to be held.
func TestAMomentAheadOfTheLastChange(t *testing.T) {
	for _, hold := range []int64{1, 5, 1000} {
		p, _ := busy(t, hold, 5000)
		for _, now := range []int64{5000 - 1, 5000 - hold, 5000 - hold - 1, 5000 - hold + 1, 4000, hold, 0, -hold, -5000, lowest} {
			p.touch([]int{0}, now)
			p.is(0, 0, 5, 10)
		}
		p.touch([]int{0}, 5000+hold-1)
		p.is(0, 0, 5, 10)
		p.touch([]int{0}, 5000+hold)
		p.is(0, 0, 5, 20)
	}
}

// Moments that are none count as the nearest ones.
func TestMomentsThatAreNone(t *testing.T) {
	for _, hold := range holds {
		for _, now := range moments {
			p := newPair(t, 1, 1, 0, hold, 10, 1)
			p.put([]int{0}, 5)
			want := 0
			if nearest(now).Int64() >= hold {
				want = 10
			}
			p.touch([]int{0}, now)
			p.is(0, 0, 5, want)
			for _, then := range moments {
				p.touch([]int{0}, then)
			}
		}
	}
	// A change at one beyond MaxTime was at MaxTime, so one there follows, if
	// nothing is to be held, and no other one does.
	for _, now := range []int64{topTime, topTime + 1, highest} {
		p, _ := busy(t, 0, now)
		for k, then := range []int64{topTime, topTime + 1, highest} {
			p.touch([]int{0}, topTime-1)
			p.touch([]int{0}, then)
			p.is(0, 0, 5, 20+10*k)
		}
		q, _ := busy(t, 1, now)
		for _, then := range moments {
			q.touch([]int{0}, then)
			q.is(0, 0, 5, 10)
		}
	}
	// One below 0 was at 0.
	p, _ := busy(t, 0, -5)
	p.touch([]int{0}, lowest)
	p.touch([]int{0}, 0)
	p.is(0, 0, 5, 30)
}

func TestUpToCertain(t *testing.T) {
	for _, up := range rightSteps {
		p := newPair(t, 2, 2, 10, 0, up, 1)
		p.put([]int{0, 1}, 11)
		for k := range 6 {
			p.touch([]int{0, 1}, int64(k))
			p.marks([]int{0, 1}, min((k+1)*up, certain))
		}
	}
	for _, c := range []struct{ first, second, want int }{
		{certain - 1, 1, certain}, {certain - 1, 2, certain}, {certain - 2, 1, certain - 1}, {certain, 0, certain},
		{certain, 1, certain}, {certain, certain, certain}, {1, certain - 1, certain}, {1, certain, certain},
		{0, certain, certain}, {40000, 40000, certain}, {40000, 25536, certain}, {40000, 25535, certain - 1},
	} {
		p := newPair(t, 1, 1, 10, 0, c.first, 1)
		p.put([]int{0}, 11)
		p.touch([]int{0}, 1)
		p.tune(10, c.second, 1)
		p.touch([]int{0}, 2)
		p.is(0, 0, 11, c.want)
	}
}

func TestDownToNone(t *testing.T) {
	for _, had := range []int{0, 1, 2, 99, 100, 101, certain / 2, certain - 1, certain} {
		for _, down := range rightSteps {
			p := newPair(t, 2, 2, 10, 0, had, down)
			p.put([]int{0, 1}, 11)
			p.touch([]int{0, 1}, 1)
			p.take([]int{0, 1}, 11)
			for k := range 4 {
				p.touch([]int{0, 1}, int64(2+k))
				p.marks([]int{0, 1}, max(had-(k+1)*down, 0))
				p.is(1, 0, 0, 0)
			}
		}
	}
}

// A change that leaves the probability as it is was one nonetheless: from it on
// it is held.
func TestAChangeByNothing(t *testing.T) {
	for _, c := range []struct {
		name                string
		up, down            int
		bytes               int64
		nextUp, nextDown    int
		before, then, after int
	}{
		{"up by 0", 0, 9, 5, 10, 9, 500, 500, 510},
		{"down by 0", 9, 0, 0, 9, 10, 500, 500, 490},
		{"up at Certain", 9, 9, 5, 9, 9, certain, certain, certain},
		{"down at 0", 9, 9, 0, 9, 9, 0, 0, 0},
	} {
		p := newPair(t, 1, 1, 2, 100, c.before, 0)
		p.put([]int{0}, 3)
		p.touch([]int{0}, 100)
		p.alone([]int{0}, c.bytes)
		p.tune(2, c.up, c.down)
		p.touch([]int{0}, 250)
		p.is(0, 0, c.bytes, c.then)
		p.tune(2, c.nextUp, c.nextDown)
		p.touch([]int{0}, 349)
		p.is(0, 0, c.bytes, c.then)
		p.touch([]int{0}, 350)
		p.is(0, 0, c.bytes, c.after)
	}
	// At Certain, and at 0, it is to be seen by what comes the other way.
	for _, c := range []struct {
		bytes int64
		other int64
		had   int
		want  int
	}{{5, 0, certain, certain - 7}, {0, 5, 0, 7}} {
		p := newPair(t, 1, 1, 2, 100, c.had, 7)
		p.put([]int{0}, 3)
		p.touch([]int{0}, 100)
		p.tune(2, 7, 7)
		p.alone([]int{0}, c.bytes)
		p.touch([]int{0}, 250)
		p.is(0, 0, c.bytes, c.had)
		p.alone([]int{0}, c.other)
		p.touch([]int{0}, 349)
		p.is(0, 0, c.other, c.had)
		p.touch([]int{0}, 350)
		p.is(0, 0, c.other, c.want)
	}
}

// Each bin has a moment of its own.
func TestEachBinIsHeldByItself(t *testing.T) {
	p := newPair(t, 2, 2, 0, 10, 5, 1)
	p.put([]int{0, 0}, 1)
	p.put([]int{1, 1}, 1)
	p.touch([]int{0, 0}, 10)
	p.touch([]int{1, 0}, 15)
	p.is(0, 0, 1, 5)
	p.is(0, 1, 1, 5)
	p.is(1, 0, 1, 5)
	p.touch([]int{0, 1}, 20)
	p.is(0, 0, 1, 10)
	p.is(1, 1, 1, 5)
	p.touch([]int{1, 0}, 20)
	p.is(0, 1, 1, 5)
	p.is(1, 0, 1, 10)
	p.touch([]int{1, 1}, 25)
	p.is(0, 1, 1, 10)
	p.is(1, 1, 1, 5)
}

func TestTouchChangesNoBytes(t *testing.T) {
	for _, n := range append([]int64{9, 11}, rightBytes...) {
		p := newPair(t, 2, 3, 10, 0, 5, 1)
		p.put([]int{0, 1}, n)
		for _, now := range moments {
			p.touch([]int{0, 1}, now)
			for k := range 3 {
				want := [2]int64{}
				if k == 0 {
					want[0] = n
				}
				if k == 1 {
					want[1] = n
				}
				for level := range 2 {
					if got, _ := p.blue.Bin(level, k); got != want[level] {
						t.Fatalf("Bin(%d, %d): %d, not %d", level, k, got, want[level])
					}
				}
			}
		}
	}
}

// On whatever level the least one stands.
func TestMarkIsTheLeast(t *testing.T) {
	for levels := 1; levels <= topLevels; levels++ {
		for low := range levels {
			// On the level low bin 1 is touched once, on the others three times.
			p := newPair(t, levels, 2, 0, 0, 100, 1)
			all := slices.Repeat([]int{1}, levels)
			other := slices.Clone(all)
			other[low] = 0
			p.put(all, 1)
			p.put(other, 1)
			p.touch(all, 1)
			p.marks(all, 100)
			p.touch(other, 1)
			p.touch(other, 1)
			p.is(low, 1, 1, 100)
			p.is(low, 0, 1, 200)
			p.marks(all, 100)
			if levels == 1 {
				p.marks(other, 200)
				continue
			}
			for level := range levels {
				if level != low {
					p.is(level, 1, 2, 300)
				}
			}
			p.marks(other, 200)
			p.touch(all, 1)
			p.marks(all, 200)
			p.marks(other, 200)
			p.touch(all, 1)
			p.marks(all, 300)
			p.marks(other, 200)
			third := slices.Clone(all)
			third[(low+1)%levels] = 0
			p.marks(third, 0)
		}
	}
}

// Every order of unlike probabilities.
func TestMarkOfEachOrder(t *testing.T) {
	p := newPair(t, 3, 4, 0, 0, 100, 1)
	for k := range 4 {
		l := []int{k, k, k}
		p.put(l, 1)
		for range k {
			p.touch(l, 1)
		}
	}
	for a := range 4 {
		for b := range 4 {
			for c := range 4 {
				p.marks([]int{a, b, c}, 100*min(a, b, c))
			}
		}
	}
}

func TestBin(t *testing.T) {
	for levels := 1; levels <= topLevels; levels++ {
		for _, bins := range []int{1, 2, topBins - 1, topBins} {
			b, _ := New(levels, bins, 0, 0, 9, 1)
			for k := range bins {
				l := flow(levels, bins, k, 1)
				b.Put(l, 3)
				b.Touch(l, 1)
			}
			for _, level := range []int{math.MinInt, -1, 0, levels - 1, levels, topLevels, math.MaxInt} {
				for _, k := range []int{math.MinInt, -1, 0, bins - 1, bins, topBins, 1 << 32, math.MaxInt} {
					bytes, probability := int64(0), 0
					if level >= 0 && level < levels && k >= 0 && k < bins {
						bytes, probability = 3, 9
					}
					if n, x := b.Bin(level, k); n != bytes || x != probability {
						t.Errorf("of %d levels, %d bins: Bin(%d, %d): %d, %d", levels, bins, level, k, n, x)
					}
				}
			}
		}
	}
}

func TestClear(t *testing.T) {
	for levels := 1; levels <= topLevels; levels++ {
		p := worn(t, levels, 5)
		p.clear()
		for level := range levels {
			for k := range 5 {
				p.is(level, k, 0, 0)
			}
		}
		// What it was changed at is 0, so it is held from there on.
		l := p.flow(0, 1)
		p.put(l, 11)
		p.touch(l, 9)
		p.marks(l, 0)
		p.touch(l, 10)
		p.marks(l, 300)
		p.clear()
		p.clear()
		p.marks(l, 0)
		p.touch(l, 10)
		p.marks(l, 0)
		p.put(l, 11)
		p.touch(l, 19)
		p.marks(l, 0)
		p.touch(l, 20)
		p.marks(l, 300)
	}
}

// Behind a change at the last moment there is no other one, unless it is
// cleared.
func TestClearBehindTheLastMoment(t *testing.T) {
	for _, hold := range holds {
		p, _ := busy(t, hold, highest)
		p.clear()
		p.put([]int{0}, 5)
		if hold > 0 {
			p.touch([]int{0}, hold-1)
			p.is(0, 0, 5, 0)
		}
		p.touch([]int{0}, hold)
		p.is(0, 0, 5, 10)
	}
}

// What it is touched by stays.
func TestClearLeavesTheRules(t *testing.T) {
	p := newPair(t, 1, 1, 10, 20, 30, 40)
	p.tune(5, 60, 7)
	p.put([]int{0}, 6)
	p.touch([]int{0}, 100)
	p.clear()
	p.put([]int{0}, 5)
	p.touch([]int{0}, 20)
	p.is(0, 0, 5, 0)
	p.put([]int{0}, 1)
	p.touch([]int{0}, 19)
	p.is(0, 0, 6, 0)
	p.touch([]int{0}, 20)
	p.is(0, 0, 6, 60)
	p.take([]int{0}, 6)
	p.touch([]int{0}, 40)
	p.is(0, 0, 0, 53)
}

func TestTuneOfWhatMayBe(t *testing.T) {
	for _, target := range rightBytes {
		for _, up := range rightSteps {
			for _, down := range rightSteps {
				p := newPair(t, 1, 2, 3, 10, 500, 200)
				p.put([]int{0}, 4)
				p.touch([]int{0}, 10)
				if !p.tune(target, up, down) {
					t.Fatal(target, up, down)
				}
				// Nothing is changed till the next one, and hold stays.
				p.is(0, 0, 4, 500)
				p.touch([]int{0}, 19)
				p.is(0, 0, 4, 500)
				p.alone([]int{0}, target)
				if target > 0 {
					p.touch([]int{0}, 20)
					p.is(0, 0, target, 500)
				}
				p.put([]int{0}, 1)
				p.touch([]int{0}, 20)
				p.is(0, 0, target+1, min(500+up, certain))
				p.take([]int{0}, topBytes)
				p.take([]int{0}, 1)
				p.touch([]int{0}, 30)
				p.is(0, 0, 0, max(min(500+up, certain)-down, 0))
			}
		}
	}
}

func TestTuneOfWhatMayNotBe(t *testing.T) {
	refused := func(target int64, up, down int) {
		t.Helper()
		p := newPair(t, 1, 2, 3, 10, 500, 200)
		p.put([]int{0}, 4)
		p.touch([]int{0}, 10)
		if p.tune(target, up, down) {
			t.Fatal(target, up, down)
		}
		p.is(0, 0, 4, 500)
		p.touch([]int{0}, 20)
		p.is(0, 0, 4, 1000)
		p.take([]int{0}, 1)
		p.touch([]int{0}, 30)
		p.is(0, 0, 3, 1000)
		p.take([]int{0}, 3)
		p.touch([]int{0}, 30)
		p.is(0, 0, 0, 800)
	}
	for _, target := range wrongBytes {
		for _, n := range rightSteps {
			refused(target, n, 1)
			refused(target, 1, n)
		}
		for _, n := range wrongSteps {
			refused(target, n, n)
			refused(target, n, 1)
			refused(target, 1, n)
		}
	}
	for _, target := range rightBytes {
		for _, n := range wrongSteps {
			refused(target, n, n)
			for _, ok := range rightSteps {
				refused(target, n, ok)
				refused(target, ok, n)
			}
		}
	}
}

// Lists that are handed in stay as they are, their spare room too.
func TestListsStayAsTheyAre(t *testing.T) {
	p := worn(t, 3, 4)
	whole := []int{9, 1, 2, 3, 7, -5, 8}
	was := slices.Clone(whole)
	for end := 1; end <= len(whole); end++ {
		for _, l := range [][]int{whole[1:end], whole[:end], whole[1:end:end]} {
			for _, now := range []int64{-1, 7, 60, 90} {
				p.put(l, now)
				p.take(l, now)
				p.touch(l, now)
				p.marks(l, p.plain.mark(l))
				if !slices.Equal(whole, was) {
					t.Fatal(whole)
				}
			}
		}
	}
}

// Nor are they kept.
func TestListsAreNotKept(t *testing.T) {
	p := newPair(t, 3, 4, 5, 10, 100, 7)
	l := make([]int, 3, 6)
	for k := range 4 {
		for level := range l {
			l[level] = (k + level) % 4
		}
		p.put(l, int64(4+k))
		p.touch(l, int64(20+k))
		p.marks(l, p.plain.mark(l))
		spoil(l)
		p.check()
		p.put(p.flow(k, 1), 1)
		p.take(p.flow(k, 1), 2)
		p.touch(p.flow(k, 1), int64(40+k))
	}
}

// spoil changes all of a list, its spare room too.
func spoil(l []int) {
	l = l[:cap(l)]
	for k := range l {
		l[k] = 99 - k
	}
}

func TestOfNone(t *testing.T) {
	var b *Blue
	lists := append(strangers(2, 2), []int{0}, []int{0, 0}, []int{1, 1, 1}, []int{0, 0, 0, 0})
	for range 2 {
		for _, n := range append(slices.Clone(rightBytes), wrongBytes...) {
			for _, l := range lists {
				if b.Put(l, n) || b.Take(l, n) || b.Touch(l, n) || b.Mark(l) != 0 {
					t.Fatal(l, n)
				}
			}
			for _, step := range append(slices.Clone(rightSteps), wrongSteps...) {
				if b.Tune(n, step, 1) || b.Tune(n, 1, step) {
					t.Fatal(n, step)
				}
				if n, x := b.Bin(step, step); n != 0 || x != 0 {
					t.Fatal(step, n, x)
				}
			}
		}
		b.Clear()
	}
}

// Of those that are made by hand nothing is promised but that no call panics.
func TestMadeByHand(t *testing.T) {
	lists := append(strangers(2, 2), []int{0}, []int{0, 0}, []int{1, 1, 1}, []int{0, 0, 0, 0})
	for _, b := range []*Blue{{}, new(Blue), {hold: lowest, target: lowest, up: math.MaxInt, down: math.MinInt},
		{levels: [][]state{nil, nil}}, {levels: [][]state{{}, {{bytes: -1, changed: lowest}}}},
		{levels: [][]state{{{bytes: highest, probability: math.MaxInt, changed: highest}}}, up: math.MaxInt, down: math.MinInt}} {
		for _, n := range append(slices.Clone(moments), wrongBytes...) {
			for _, l := range lists {
				b.Put(l, n)
				b.Touch(l, n)
				b.Take(l, n)
				b.Touch(l, n)
				b.Mark(l)
			}
			b.Bin(int(n), 0)
			b.Bin(0, int(n))
			b.Tune(n, int(n), int(n))
		}
		b.Clear()
	}
	// One without levels has nobody's bins.
	if b := new(Blue); b.Put(nil, 1) || b.Take(nil, 1) || b.Touch(nil, 1) || b.Mark(nil) != 0 {
		t.Error("without levels")
	}
}

func TestTwoDontDisturbEachOther(t *testing.T) {
	a, b := worn(t, 2, 3), worn(t, 2, 3)
	a.put([]int{0, 1}, 77)
	b.check()
	b.touch([]int{0, 1}, 90)
	b.touch([]int{2, 2}, 90)
	a.check()
	a.tune(1, 2, 3)
	b.touch([]int{0, 1}, 120)
	b.clear()
	a.check()
	a.touch([]int{0, 1}, 60)
	b.check()
}

// Every line of steps that is so short, of small ones.
func TestEveryShortLineOfSteps(t *testing.T) {
	steps := []func(p *pair){
		func(p *pair) { p.put(p.flow(0, 0), 4) },
		func(p *pair) { p.put(p.flow(0, 1), 7) },
		func(p *pair) { p.take(p.flow(0, 0), 3) },
		func(p *pair) { p.take(p.flow(0, 1), 7) },
		func(p *pair) { p.touch(p.flow(0, 0), 5) },
		func(p *pair) { p.touch(p.flow(0, 1), 5) },
		func(p *pair) { p.touch(p.flow(0, 0), 9) },
		func(p *pair) { p.touch(p.flow(1, 1), 10) },
		func(p *pair) { p.touch(p.flow(0, 1), 12) },
		func(p *pair) { p.touch(nil, 12) },
		func(p *pair) { p.clear() },
		func(p *pair) { p.tune(4, 5, 2) },
	}
	for _, hold := range []int64{0, 5} {
		for levels := 1; levels <= 2; levels++ {
			for line := range len(steps) * len(steps) * len(steps) * len(steps) {
				p := newPair(t, levels, 2, 5, hold, 10, 3)
				for range 4 {
					steps[line%len(steps)](p)
					line /= len(steps)
				}
			}
		}
	}
}

// drawing draws the steps of one pair.
type drawing struct {
	*pair
	draw *rand.Rand
	now  int64
}

// list is mostly a flow's bins, and mostly few ones.
func (d *drawing) list() []int {
	l := make([]int, d.plain.levels)
	for level := range l {
		l[level] = d.draw.Intn(min(3, d.plain.bins))
		if d.draw.Intn(4) == 0 {
			l[level] = d.draw.Intn(d.plain.bins)
		}
	}
	switch d.draw.Intn(40) {
	case 0:
		l[d.draw.Intn(len(l))] = []int{-1, d.plain.bins, math.MinInt, math.MaxInt}[d.draw.Intn(4)]
	case 1:
		return l[1:]
	case 2:
		return append(l, 0)
	}
	return l
}

// bytes is how many bytes, mostly few.
func (d *drawing) bytes() int64 {
	switch d.draw.Intn(30) {
	case 0:
		return wrongBytes[d.draw.Intn(len(wrongBytes))]
	case 1:
		return rightBytes[d.draw.Intn(len(rightBytes))]
	}
	return d.draw.Int63n(12)
}

// step is by how much a probability changes.
func (d *drawing) step() int {
	switch d.draw.Intn(20) {
	case 0:
		return wrongSteps[d.draw.Intn(len(wrongSteps))]
	case 1, 2, 3:
		return rightSteps[d.draw.Intn(len(rightSteps))]
	}
	return d.draw.Intn(30000)
}

// moment goes on, mostly by about as much as is to be held.
func (d *drawing) moment() int64 {
	reach := min(d.plain.hold, topTime/100) + 1
	switch d.draw.Intn(40) {
	case 0:
		return moments[d.draw.Intn(len(moments))]
	case 1, 2:
		return d.now - d.draw.Int63n(2*reach)
	}
	if d.draw.Intn(2) == 0 {
		d.now += d.draw.Int63n(reach)
	}
	if d.draw.Intn(10) == 0 {
		d.now += reach - 1
	}
	return d.now
}

func (d *drawing) next() {
	d.t.Helper()
	switch d.draw.Intn(20) {
	case 0:
		d.tune(d.bytes(), d.step(), d.step())
	case 1:
		if d.draw.Intn(5) == 0 {
			d.clear()
		}
	case 2, 3, 4, 5, 6:
		d.put(d.list(), d.bytes())
	case 7, 8, 9, 10, 11:
		d.take(d.list(), d.bytes())
	default:
		d.touch(d.list(), d.moment())
	}
	l := d.list()
	d.marks(l, d.plain.mark(l))
}

func TestDrawnSteps(t *testing.T) {
	for seed := range int64(300) {
		draw := rand.New(rand.NewSource(seed))
		levels, bins := 1+draw.Intn(topLevels), 1+draw.Intn(6)
		if seed%20 == 0 {
			bins = topBins - draw.Intn(2)
		}
		hold := []int64{0, 1, 2, 10, 1 << 30, topTime / 3, topTime}[draw.Intn(7)]
		p := newPair(t, levels, bins, draw.Int63n(15), hold, draw.Intn(40000), draw.Intn(20000))
		d := &drawing{pair: p, draw: draw}
		for range 120 {
			d.next()
		}
	}
}
