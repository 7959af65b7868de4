package window

import (
	"math"
	"math/big"
	"math/rand"
	"slices"
	"testing"

	"bailiff/api"
	"bailiff/sketch"
)

// The limits as the document writes them, so that a test doesn't take them
// from where the program does.
const (
	topSlots = 64
	topTime  = int64(1)<<62 - 1
	topCount = int64(1) << 62
	lowest   = int64(math.MinInt64)
	highest  = int64(math.MaxInt64)
)

// Numbers that may be a length or a threshold, and such that may not.
var (
	right = []int64{1, 2, 10, 1 << 32, 1<<61 + 1, topTime - 1, topTime}
	wrong = []int64{lowest, lowest + 1, -topTime, -1 << 32, -10, -1, 0, topTime + 1, topTime + 2, highest - 1, highest}
)

// who is the n-th prefix.
func who(n int) api.Prefix {
	return api.Prefix{V6: n%2 == 1, Addr: [7]byte{byte(n >> 8), 1, 2, byte(n)}}
}

// slot is what the n-th prefix has.
func slot(n int, count, err int64) sketch.Slot {
	return sketch.Slot{Prefix: who(n), Count: count, Err: err}
}

// added is one Add that was done, and the window in which it counts.
type added struct {
	number *big.Int
	who    api.Prefix
	n      *big.Int
}

// plain is a plain second way: all that was ever added is kept, and whatever
// is asked is worked out anew from it.
type plain struct {
	slots     int
	ns        int64
	threshold int64
	all       []added
}

// nearest is the number that is nearest to n of those from 0 to most.
func nearest(n, most int64) *big.Int {
	if n < 0 {
		return big.NewInt(0)
	}
	if n > most {
		return big.NewInt(most)
	}
	return big.NewInt(n)
}

func (p *plain) number() *big.Int {
	latest := big.NewInt(0)
	for _, a := range p.all {
		if a.number.Cmp(latest) > 0 {
			latest = a.number
		}
	}
	return latest
}

// most is the lesser one of n and MaxCount.
func most(n *big.Int) *big.Int {
	if top := big.NewInt(topCount); n.Cmp(top) > 0 {
		return top
	}
	return n
}

// known is the slots of the latest window: of each the prefix, the count and
// what may be wrong of it.
func (p *plain) known() []sketch.Slot {
	type known struct {
		who        api.Prefix
		count, err *big.Int
	}
	var l []*known
	latest := p.number()
	for _, a := range p.all {
		if a.number.Cmp(latest) != 0 {
			continue
		}
		k := slices.IndexFunc(l, func(x *known) bool { return x.who == a.who })
		if k < 0 && len(l) < p.slots {
			k = len(l)
			l = append(l, &known{a.who, big.NewInt(0), big.NewInt(0)})
		}
		if k < 0 {
			k = 0
			for j := len(l) - 1; j >= 0; j-- {
				if l[j].count.Cmp(l[k].count) <= 0 {
					k = j
				}
			}
			l[k] = &known{a.who, l[k].count, l[k].count}
		}
		l[k].count = most(new(big.Int).Add(l[k].count, a.n))
	}
	var slots []sketch.Slot
	for _, x := range l {
		slots = append(slots, sketch.Slot{Prefix: x.who, Count: x.count.Int64(), Err: x.err.Int64()})
	}
	return slots
}

func (p *plain) add(now int64, x api.Prefix, n int64) bool {
	number := new(big.Int).Div(nearest(now, topTime), big.NewInt(p.ns))
	if latest := p.number(); number.Cmp(latest) < 0 {
		number = latest
	}
	p.all = append(p.all, added{number, x, nearest(n, topCount)})
	for _, s := range p.known() {
		if s.Prefix == x {
			sure := new(big.Int).Sub(big.NewInt(s.Count), big.NewInt(s.Err))
			return sure.Cmp(big.NewInt(p.threshold)) >= 0
		}
	}
	return false
}

func (p *plain) tune(threshold int64) bool {
	may := threshold > 0 && threshold <= topTime
	if may {
		p.threshold = threshold
	}
	return may
}

// pair is a window and a plain second one. Each step is done to both, and all
// that the window says of itself is held against the other behind it.
type pair struct {
	t      *testing.T
	window *Window
	plain  plain
}

func newPair(t *testing.T, slots int, ns, threshold int64) *pair {
	t.Helper()
	w, e := New(slots, ns, threshold)
	if w == nil || e != api.OK {
		t.Fatalf("New(%d, %d, %d): %v, %v", slots, ns, threshold, w, e)
	}
	p := &pair{t: t, window: w, plain: plain{slots: slots, ns: ns, threshold: threshold}}
	p.is(0)
	p.check()
	return p
}

func (p *pair) add(now int64, x api.Prefix, n int64) bool {
	p.t.Helper()
	want := p.plain.add(now, x, n)
	got := p.window.Add(now, x, n)
	if got != want {
		p.t.Fatalf("Add(%d, %v, %d) with ns %d, threshold %d: %v; slots then: %v",
			now, x, n, p.plain.ns, p.plain.threshold, got, p.plain.known())
	}
	p.check()
	return got
}

func (p *pair) tune(threshold int64) {
	p.t.Helper()
	want := p.plain.tune(threshold)
	if got := p.window.Tune(threshold); got != want {
		p.t.Fatalf("Tune(%d): %v", threshold, got)
	}
	p.check()
}

// is holds the window against what it ought to be, written by hand.
func (p *pair) is(number int64, slots ...sketch.Slot) {
	p.t.Helper()
	if got := p.window.Number(); got != number {
		p.t.Fatalf("number: %d, not %d", got, number)
	}
	if got := p.window.Slots(); !slices.Equal(got, slots) {
		p.t.Fatalf("slots: %v, not %v", got, slots)
	}
}

// check asks for everything twice, as to be asked must change nothing.
func (p *pair) check() {
	p.t.Helper()
	number, slots := p.plain.number().Int64(), p.plain.known()
	for range 2 {
		p.is(number, slots...)
	}
}

func TestNewOfWrongOnes(t *testing.T) {
	refused := func(slots int, ns, threshold int64) {
		t.Helper()
		if w, e := New(slots, ns, threshold); w != nil || e != api.ErrArg {
			t.Errorf("New(%d, %d, %d): %v, %v", slots, ns, threshold, w, e)
		}
	}
	wrongSlots := []int{math.MinInt, math.MinInt + 1, math.MinInt32, -topSlots, -1, 0,
		topSlots + 1, 1 << 16, 1<<32 + 1, math.MaxInt32, math.MaxInt}
	for _, slots := range wrongSlots {
		for _, n := range right {
			refused(slots, n, 1)
			refused(slots, 1, n)
		}
		for _, n := range wrong {
			refused(slots, n, 1)
			refused(slots, 1, n)
			refused(slots, n, n)
		}
	}
	for _, slots := range []int{1, 2, topSlots - 1, topSlots} {
		for _, n := range wrong {
			for _, ok := range right {
				refused(slots, n, ok)
				refused(slots, ok, n)
			}
			for _, m := range wrong {
				refused(slots, n, m)
			}
		}
	}
}

func TestNewOfRightOnes(t *testing.T) {
	for _, ns := range right {
		for _, threshold := range right {
			for slots := 1; slots <= topSlots; slots++ {
				w, e := New(slots, ns, threshold)
				if w == nil || e != api.OK {
					t.Fatalf("New(%d, %d, %d): %v, %v", slots, ns, threshold, w, e)
				}
				if l := w.Slots(); len(l) != 0 || w.Number() != 0 {
					t.Errorf("New(%d, %d, %d): %v, %d", slots, ns, threshold, l, w.Number())
				}
			}
		}
	}
}

func TestAsManySlotsAsItWasMadeWith(t *testing.T) {
	for slots := 1; slots <= topSlots; slots++ {
		w, _ := New(slots, 10, 1)
		for round := range int64(2) {
			for k := range 2 * slots {
				w.Add(10*round, who(k), 1)
				if l := w.Slots(); len(l) != min(k+1, slots) {
					t.Fatalf("New(%d, ..): %d slots behind %d prefixes", slots, len(l), k+1)
				}
			}
		}
	}
}

func TestAddAsInTheChapter(t *testing.T) {
	for _, ns := range right {
		w, _ := New(1, ns, 10)
		if w.Add(0, who(0), 9) || !w.Add(0, who(0), 1) || w.Add(ns, who(0), 1) {
			t.Error(ns, w.Slots())
		}
		if l := w.Slots(); w.Number() != 1 || !slices.Equal(l, []sketch.Slot{slot(0, 1, 0)}) {
			t.Error(ns, w.Number(), l)
		}
	}
}

func TestTheNumberOfAMoment(t *testing.T) {
	for _, c := range []struct{ ns, now, want int64 }{
		{1, lowest, 0}, {1, -1, 0}, {1, 0, 0}, {1, 1, 1}, {1, 2, 2}, {1, 1 << 32, 1 << 32},
		{1, topTime - 1, topTime - 1}, {1, topTime, topTime}, {1, topTime + 1, topTime}, {1, highest, topTime},
		{7, lowest, 0}, {7, -8, 0}, {7, -7, 0}, {7, -1, 0}, {7, 0, 0}, {7, 6, 0}, {7, 7, 1}, {7, 8, 1}, {7, 13, 1}, {7, 14, 2},
		{7, topTime - 3, topTime / 7}, {7, topTime, topTime / 7}, {7, topTime + 1, topTime / 7}, {7, highest, topTime / 7},
		{1e9, 999999999, 0}, {1e9, 1000000000, 1}, {1e9, 1000000001, 1}, {1e9, 1999999999, 1}, {1e9, 2000000000, 2},
		{1e9, topTime, 4611686018}, {1e9, highest, 4611686018},
		{1 << 61, 1<<61 - 1, 0}, {1 << 61, 1 << 61, 1}, {1 << 61, topTime, 1}, {1 << 61, topTime + 1, 1}, {1 << 61, highest, 1},
		{topTime - 1, topTime - 2, 0}, {topTime - 1, topTime - 1, 1}, {topTime - 1, topTime, 1}, {topTime - 1, highest, 1},
		{topTime, lowest, 0}, {topTime, 0, 0}, {topTime, topTime - 1, 0}, {topTime, topTime, 1}, {topTime, topTime + 1, 1},
		{topTime, highest, 1},
	} {
		p := newPair(t, 2, c.ns, 5)
		p.add(c.now, who(1), 3)
		p.is(c.want, slot(1, 3, 0))
	}
}

// moments of a length of windows: at their edges, and of no time.
func moments(ns int64) []int64 {
	l := []int64{lowest, -ns - 1, -ns, -1, 0, ns - 1, ns, topTime, topTime + 1, highest}
	for _, n := range []int64{2, 3, 5} {
		if ns <= topTime/n {
			l = append(l, n*ns-1, n*ns)
		}
	}
	if ns < topTime {
		l = append(l, ns+1)
	}
	return l
}

// From each moment to each other one, later, earlier or the same.
func TestFromEachMomentToEach(t *testing.T) {
	for _, ns := range []int64{1, 2, 3, 100, 1e9, 1 << 61, topTime - 1, topTime} {
		for _, from := range moments(ns) {
			for _, to := range moments(ns) {
				p := newPair(t, 2, ns, 10)
				p.add(from, who(0), 9)
				p.add(from, who(1), 4)
				earlier := p.window.Number()
				first := nearest(from, topTime).Int64() / ns
				second := nearest(to, topTime).Int64() / ns
				heavy := p.add(to, who(0), 1)
				if second > first {
					p.is(second, slot(0, 1, 0))
				} else {
					p.is(earlier, slot(0, 10, 0), slot(1, 4, 0))
				}
				if heavy != (second <= first) {
					t.Fatalf("ns %d, from %d to %d: %v", ns, from, to, heavy)
				}
				p.add(from, who(1), 6)
			}
		}
	}
}

// To be in a later window nothing need count: the one who talks of nothing
// empties the sketch too, and has a slot.
func TestALaterWindowIsEmpty(t *testing.T) {
	for _, n := range []int64{lowest, -1, 0, 1, topCount, highest} {
		for _, leap := range []int64{1, 2, 3, 1000, 1 << 40} {
			p := newPair(t, 3, 50, 10)
			for k := range 5 {
				p.add(49, who(k), 20)
			}
			p.is(0, slot(3, 40, 20), slot(4, 40, 20), slot(2, 20, 0))
			p.add(50*leap-1, who(4), 1)
			p.add(50*leap, who(2), n)
			p.is(leap, slot(2, nearest(n, topCount).Int64(), 0))
			p.add(50*leap+49, who(4), 3)
			p.add(0, who(0), 2)
			p.is(leap, slot(2, nearest(n, topCount).Int64(), 0), slot(4, 3, 0), slot(0, 2, 0))
		}
	}
}

func TestAnEarlierMomentCountsInTheLatestWindow(t *testing.T) {
	p := newPair(t, 2, 100, 10)
	p.add(730, who(0), 4)
	for k, now := range []int64{699, 0, -1, lowest, 100, 650} {
		heavy := p.add(now, who(0), 1)
		p.is(7, slot(0, int64(5+k), 0))
		if heavy != (5+k >= 10) {
			t.Error(now, heavy)
		}
	}
	if !p.add(799, who(0), 0) || p.add(800, who(0), 9) || !p.add(799, who(0), 1) {
		t.Error(p.window.Slots())
	}
	p.is(8, slot(0, 10, 0))
}

func TestThresholds(t *testing.T) {
	for _, threshold := range []int64{1, 2, 10, 1 << 32, 1<<61 + 1, topTime - 1, topTime} {
		for _, c := range []struct {
			first, second int64
			want          bool
		}{
			{threshold - 1, 0, false}, {threshold, 0, true}, {threshold + 1, 0, true},
			{threshold - 1, 1, true}, {threshold - 1, -1, false}, {threshold - 1, lowest, false},
			{0, threshold - 1, false}, {0, threshold, true}, {-1, threshold, true}, {lowest, threshold - 1, false},
			{1, threshold - 1, true}, {topCount, 0, true}, {highest, highest, true}, {0, topCount, true}, {0, highest, true},
			{threshold, -1, true}, {threshold, lowest, true}, {-threshold, threshold - 1, false},
		} {
			p := newPair(t, 1, 100, threshold)
			p.add(5, who(0), c.first)
			if got := p.add(5, who(0), c.second); got != c.want {
				t.Errorf("threshold %d, %d and %d: %v", threshold, c.first, c.second, got)
			}
		}
	}
}

func TestNumbersThatAreNoCounts(t *testing.T) {
	for _, c := range []struct {
		n    int64
		want int64
	}{
		{lowest, 0}, {lowest + 1, 0}, {-topCount, 0}, {-1, 0}, {0, 0}, {1, 1}, {2, 2},
		{topCount - 1, topCount - 1}, {topCount, topCount}, {topCount + 1, topCount}, {highest, topCount},
	} {
		for _, threshold := range right {
			p := newPair(t, 1, 9, threshold)
			if got := p.add(3, who(5), c.n); got != (c.want >= threshold) {
				t.Errorf("Add(.., %d) with threshold %d: %v", c.n, threshold, got)
			}
			p.is(0, slot(5, c.want, 0))
		}
	}
}

// What was another's may be wrong, so it makes nobody heavy.
func TestWhoWasGivenAnothersSlot(t *testing.T) {
	for _, had := range []int64{0, 1, 5, 10, 11, 1 << 40, topTime / 2} {
		for _, n := range []int64{-1, 0, 1, 8, 9, 10, 11, 1000} {
			p := newPair(t, 1, 100, 10)
			p.add(0, who(0), had)
			if got := p.add(0, who(1), n); got != (n >= 10) {
				t.Errorf("%d instead of %d: %v", n, had, got)
			}
			p.is(0, slot(1, had+max(n, 0), had))
			if got := p.add(0, who(1), 1); got != (max(n, 0)+1 >= 10) {
				t.Errorf("%d and 1 instead of %d: %v", n, had, got)
			}
		}
	}
	// A count that comes to MaxCount leaves the less for whom it is.
	for _, c := range []struct {
		left int64
		want bool
	}{{9, false}, {10, true}, {11, true}, {0, false}} {
		p := newPair(t, 1, 100, 10)
		p.add(0, who(0), topCount-c.left)
		if got := p.add(0, who(1), highest); got != c.want {
			t.Errorf("with %d left: %v", c.left, got)
		}
		p.is(0, slot(1, topCount, topCount-c.left))
	}
}

// Whether somebody is heavy is asked of who was added, not of the others.
func TestHeavyIsWhoWasAdded(t *testing.T) {
	p := newPair(t, 3, 100, 10)
	for k, c := range []struct {
		who  int
		n    int64
		want bool
	}{{0, 100, true}, {1, 9, false}, {0, 0, true}, {1, 0, false}, {2, 10, true}, {1, 1, true}, {3, 9, false}, {3, 1, true}, {0, -1, true}} {
		if got := p.add(50, who(c.who), c.n); got != c.want {
			t.Error(k, got, p.window.Slots())
		}
	}
}

func TestTune(t *testing.T) {
	for _, old := range right {
		for _, threshold := range right {
			p := newPair(t, 2, 10, old)
			p.add(25, who(0), threshold-1)
			p.add(25, who(1), 0)
			p.tune(threshold)
			p.is(2, slot(0, threshold-1, 0), slot(1, 0, 0))
			if p.add(25, who(0), 0) || !p.add(25, who(0), 1) || p.add(30, who(0), threshold-1) || !p.add(0, who(0), 1) {
				t.Errorf("from %d to %d", old, threshold)
			}
		}
	}
}

func TestTuneOfWrongOnes(t *testing.T) {
	for _, old := range right {
		for _, threshold := range wrong {
			p := newPair(t, 2, 10, old)
			p.add(25, who(0), old-1)
			p.tune(threshold)
			p.is(2, slot(0, old-1, 0))
			if p.add(25, who(0), 0) || !p.add(25, who(0), 1) {
				t.Errorf("from %d to %d", old, threshold)
			}
		}
	}
}

// Who is heavy may be so no more, and the other way round, by the threshold
// alone.
func TestTuneUpAndDown(t *testing.T) {
	p := newPair(t, 1, 10, 10)
	p.add(5, who(0), 15)
	for _, c := range []struct {
		threshold int64
		want      bool
	}{{15, true}, {16, false}, {14, true}, {0, true}, {-5, true}, {topTime, false}, {topTime + 1, false}, {lowest, false}, {1, true}, {16, false}, {highest, false}} {
		p.tune(c.threshold)
		if got := p.add(5, who(0), 0); got != c.want {
			t.Errorf("Tune(%d): %v", c.threshold, got)
		}
	}
	p.is(0, slot(0, 15, 0))
}

// A threshold stays while the windows change.
func TestTuneHoldsInLaterWindows(t *testing.T) {
	p := newPair(t, 2, 10, 5)
	p.tune(7)
	for k := range int64(6) {
		if p.add(10*k, who(0), 6) || !p.add(10*k, who(0), 1) {
			t.Error(k)
		}
	}
}

// spoil changes all of a list, its spare room too.
func spoil(l []sketch.Slot) {
	l = l[:cap(l)]
	for k := range l {
		l[k] = slot(500+k, -7, 99)
	}
}

func TestSlotsAreNewMemory(t *testing.T) {
	for _, slots := range []int{1, 2, 3, 7, topSlots} {
		for have := range slots + 1 {
			p := newPair(t, slots, 10, 3)
			for k := range have {
				p.add(25, who(k), int64(k+1))
			}
			want := p.plain.known()
			one, two := p.window.Slots(), p.window.Slots()
			spoil(one)
			if !slices.Equal(two, want) {
				t.Fatalf("of %d slots: %v, not %v", have, two, want)
			}
			p.check()
			spoil(append(one, slot(77, 77, 77)))
			spoil(append(one[:0], slot(77, 77, 77)))
			p.check()
			// Those of later steps aren't in what was told, and the other way round.
			p.add(25, who(0), 3)
			p.add(25, who(99), 5)
			spoil(one)
			p.check()
			p.add(35, who(5), 2)
			spoil(one)
			p.check()
			if !slices.Equal(two, want) {
				t.Fatalf("of %d slots, later: %v, not %v", have, two, want)
			}
		}
	}
}

func TestTheSpareRoomOfWhatIsToldStays(t *testing.T) {
	p := newPair(t, 8, 10, 3)
	for k := range 3 {
		p.add(5, who(k), 1)
	}
	l := p.window.Slots()
	spare := slices.Clone(l[:cap(l)])
	for k := range 20 {
		p.add(int64(k), who(k), 9)
		if !slices.Equal(l[:cap(l)], spare) {
			t.Fatal(k, l[:cap(l)])
		}
	}
}

// silent asks a window everything, and ends the test if it says anything.
func silent(t *testing.T, w *Window) {
	t.Helper()
	all := append(slices.Clone(right), wrong...)
	for _, now := range all {
		for _, n := range all {
			if w.Add(now, who(1), n) || w.Add(now, api.Prefix{}, n) {
				t.Fatalf("Add(%d, .., %d)", now, n)
			}
		}
		if w.Tune(now) {
			t.Fatalf("Tune(%d)", now)
		}
		if l := w.Slots(); len(l) != 0 || w.Number() != 0 {
			t.Fatal(l, w.Number())
		}
	}
}

func TestOfNone(t *testing.T) { silent(t, nil) }

// Of those that are made by hand nothing is promised but that no call panics.
func TestMadeByHand(t *testing.T) {
	all := append(slices.Clone(right), wrong...)
	for _, w := range []*Window{{}, new(Window), {ns: 1}, {ns: -1}, {ns: lowest, threshold: lowest}, {threshold: 5},
		{ns: 10, number: -7}, {ns: 10, talkers: &sketch.Sketch{}}} {
		for range 2 {
			for _, n := range all {
				w.Add(n, who(1), n)
				w.Slots()
				w.Number()
				w.Tune(n)
			}
		}
	}
}

func TestTwoDontDisturbEachOther(t *testing.T) {
	a, b := newPair(t, 2, 10, 5), newPair(t, 3, 20, 6)
	a.add(25, who(0), 7)
	b.check()
	b.add(900, who(0), 5)
	b.add(900, who(1), 5)
	a.check()
	a.tune(50)
	b.add(0, who(0), 1)
	b.tune(1)
	a.add(0, who(0), 42)
	b.check()
}

// Every line of steps that is so short, of each small window.
func TestEveryShortLineOfSteps(t *testing.T) {
	type step struct {
		now  int64
		who  int
		n    int64
		tune int64
	}
	var steps []step
	for _, now := range []int64{0, 9, 10, 25} {
		for who := range 3 {
			steps = append(steps, step{now: now, who: who, n: 2})
		}
		steps = append(steps, step{now: now, n: 3})
	}
	steps = append(steps, step{tune: 3}, step{tune: -1})
	for slots := 1; slots <= 2; slots++ {
		for line := range len(steps) * len(steps) * len(steps) * len(steps) {
			p := newPair(t, slots, 10, 4)
			for range 4 {
				s := steps[line%len(steps)]
				line /= len(steps)
				if s.tune != 0 {
					p.tune(s.tune)
				} else {
					p.add(s.now, who(s.who), s.n)
				}
			}
		}
	}
}

// drawn is a number that is mostly small.
func drawn(draw *rand.Rand, small int64) int64 {
	switch draw.Intn(15) {
	case 0:
		return wrong[draw.Intn(7)]
	case 1:
		return right[draw.Intn(2)]
	case 2:
		if draw.Intn(20) == 0 {
			return draw.Int63() - draw.Int63()
		}
		return small
	}
	return draw.Int63n(small)
}

func TestDrawnSteps(t *testing.T) {
	for seed := range int64(300) {
		draw := rand.New(rand.NewSource(seed))
		slots := 1 + draw.Intn(6)
		if seed%10 == 0 {
			slots = topSlots - draw.Intn(2)
		}
		ns := []int64{1, 2, 7, 100, 1 << 30, topTime / 3, topTime}[draw.Intn(7)]
		p := newPair(t, slots, ns, 1+draw.Int63n(30))
		now := int64(0)
		for range 80 {
			if draw.Intn(20) == 0 {
				p.tune(drawn(draw, 30))
			}
			if draw.Intn(10) == 0 {
				now += draw.Int63n(min(ns, topTime/40)*2 + 1)
			}
			at := now
			switch draw.Intn(12) {
			case 0:
				at = now - draw.Int63n(2*min(ns, 1<<60)+1)
			case 1:
				if draw.Intn(30) == 0 {
					at = drawn(draw, topTime)
				}
			}
			p.add(at, who(draw.Intn(2*slots+2)), drawn(draw, 12))
		}
	}
}
