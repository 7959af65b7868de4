package token

import (
	"math"
	"math/big"
	"math/rand"
	"testing"

	"bailiff/api"
)

// The limits as the document writes them, so that a test doesn't take them
// from where the program does.
const (
	most     = int64(1) << 30
	parts    = int64(1) << 20
	topCount = int64(1) << 62
	lowest   = int64(math.MinInt64)
	highest  = int64(math.MaxInt64)
)

// Numbers that are none to be taken, or just are one.
var numbers = []int64{
	lowest, lowest + 1, -most, -1, 0, 1, 2, 9, 10, 11, most - 1, most, most + 1,
	1<<43 + 1, 1 << 44, 1<<44 + 1, topCount, highest - 1, highest,
}

// Moments at the edges.
var moments = []int64{
	lowest, lowest + 1, -topCount, -parts, -1, 0, 1, 2, parts - 1, parts, parts + 1, 10 * parts,
	1 << 50, topCount - 1, topCount, topCount + 1, highest - parts, highest - 1, highest,
}

// pair is tokens, and what ought to be there, reckoned in numbers that can't
// go round. Each step is done to both, and what the tokens say of themselves is
// held against the other behind it.
type pair struct {
	t           *testing.T
	tokens      *Tokens
	rate, burst int64
	there       *big.Int
	moment      int64
}

func inParts(n int64) *big.Int {
	return new(big.Int).Mul(big.NewInt(n), big.NewInt(parts))
}

func newPair(t *testing.T, rate, burst int64) *pair {
	t.Helper()
	x, e := New(rate, burst)
	if x == nil || e != api.OK {
		t.Fatalf("New(%d, %d): %v, %v", rate, burst, x, e)
	}
	p := &pair{t: t, tokens: x, rate: rate, burst: burst, there: inParts(burst)}
	p.check()
	return p
}

// came is how many parts come from one moment to another.
func came(rate, from, to int64) *big.Int {
	wait := new(big.Int).Sub(big.NewInt(to), big.NewInt(from))
	return wait.Mul(wait, big.NewInt(rate))
}

// at is how many parts ought to be there at now.
func (p *pair) at(now int64) *big.Int {
	if now <= p.moment {
		return p.there
	}
	sum := came(p.rate, p.moment, now)
	sum.Add(sum, p.there)
	if top := inParts(p.burst); sum.Cmp(top) > 0 {
		return top
	}
	return sum
}

func (p *pair) level(now int64) {
	p.t.Helper()
	want := new(big.Int).Div(p.at(now), big.NewInt(parts)).Int64()
	if got := p.tokens.Level(now); got != want {
		p.t.Fatalf("rate %d, burst %d, moment %d: Level(%d): %d, not %d", p.rate, p.burst, p.moment, now, got, want)
	}
}

// take is whether they were taken.
func (p *pair) take(now, n int64) bool {
	p.t.Helper()
	p.there = p.at(now)
	p.moment = max(p.moment, now)
	want := n >= 0 && n <= most && p.there.Cmp(inParts(n)) >= 0
	if got := p.tokens.Take(now, n); got != want {
		p.t.Fatalf("rate %d, burst %d, moment %d: Take(%d, %d): %v", p.rate, p.burst, p.moment, now, n, got)
	}
	if want {
		p.there = new(big.Int).Sub(p.there, inParts(n))
	}
	p.check()
	return want
}

// check asks around the moment, and at the edges. It asks twice, as to be asked
// must change nothing.
func (p *pair) check() {
	p.t.Helper()
	for range 2 {
		for _, now := range []int64{p.moment, max(p.moment, 1) - 1, min(p.moment, highest-1) + 1} {
			p.level(now)
		}
		for _, now := range moments {
			p.level(now)
		}
	}
}

// taken ends the test unless n could be taken, and left are there behind it.
func (p *pair) taken(now, n, left int64) {
	p.t.Helper()
	if !p.take(now, n) {
		p.t.Fatalf("Take(%d, %d): false", now, n)
	}
	p.left(left)
}

// refused ends the test unless n couldn't be taken, and left are there.
func (p *pair) refused(now, n, left int64) {
	p.t.Helper()
	if p.take(now, n) {
		p.t.Fatalf("Take(%d, %d): true", now, n)
	}
	p.left(left)
}

// left ends the test unless so many whole ones are there.
func (p *pair) left(n int64) {
	p.t.Helper()
	if got := p.tokens.Level(lowest); got != n {
		p.t.Fatalf("rate %d, burst %d, moment %d: %d are there, not %d", p.rate, p.burst, p.moment, got, n)
	}
}

func TestNew(t *testing.T) {
	rates := map[int64]bool{
		lowest: false, -1: false, 0: true, 1: true, most: true, most + 1: false, highest: false,
		-most: false, 1<<32 + 1: false,
	}
	bursts := map[int64]bool{
		lowest: false, -1: false, 0: false, 1: true, most: true, most + 1: false, highest: false,
		-most: false, 1<<32 + 1: false, 1<<44 + 1: false,
	}
	for rate, good := range rates {
		for burst, fine := range bursts {
			x, e := New(rate, burst)
			if good && fine && (x == nil || e != api.OK) {
				t.Errorf("New(%d, %d): %v, %v", rate, burst, x, e)
			}
			if !(good && fine) && (x != nil || e != api.ErrArg) {
				t.Errorf("New(%d, %d): %v, %v", rate, burst, x, e)
			}
		}
	}
}

func TestOfNewOnesTheBurstIsThere(t *testing.T) {
	for _, rate := range []int64{0, 1, parts, most} {
		for _, burst := range []int64{1, 2, 10, most - 1, most} {
			x, _ := New(rate, burst)
			for _, now := range moments {
				if got := x.Level(now); got != burst {
					t.Errorf("New(%d, %d): Level(%d): %d", rate, burst, now, got)
				}
			}
			newPair(t, rate, burst).refused(0, burst+1, burst)
			p := newPair(t, rate, burst)
			p.taken(0, burst, 0)
			p.refused(0, 1, 0)
			p.taken(0, 0, 0)
		}
	}
}

func TestTakeAsInTheChapter(t *testing.T) {
	p := newPair(t, 1, 10)
	p.taken(0, 10, 0)
	p.refused(0, 1, 0)
	p.taken(1<<20, 1, 0)
	p.refused(1<<20, 1, 0)
}

func TestTakeOfEachNumber(t *testing.T) {
	for _, n := range []int64{lowest, lowest + 1, -most, -1, 11, most, most + 1, 1 << 44, 1<<44 + 1, topCount, highest} {
		newPair(t, 1, 10).refused(0, n, 10)
	}
	for n := range int64(11) {
		newPair(t, 1, 10).taken(0, n, 10-n)
	}
	for n, left := range map[int64]int64{0: most, 1: most - 1, most - 1: 1, most: 0} {
		newPair(t, 1, most).taken(0, n, left)
	}
	for _, n := range []int64{lowest, -1, most + 1, 1 << 44, highest} {
		newPair(t, 1, most).refused(0, n, most)
	}
}

func TestTakeAsManyAsAreThere(t *testing.T) {
	p := newPair(t, parts, 100)
	p.taken(0, 60, 40)
	p.refused(0, 41, 40)
	p.taken(0, 40, 0)
	p.refused(7, 8, 7)
	p.taken(7, 7, 0)
	p.refused(7, 1, 0)
	p.taken(8, 0, 1)
}

func TestTakeAtEachMoment(t *testing.T) {
	for _, c := range []struct {
		now, there int64
	}{
		{lowest, 40}, {lowest + 1, 40}, {-1, 40}, {0, 40}, {1, 40}, {49, 40}, {50, 40},
		{51, 41}, {52, 42}, {109, 99}, {110, 100}, {111, 100},
		{topCount - 1, 100}, {topCount, 100}, {topCount + 1, 100}, {highest, 100},
	} {
		p := newPair(t, parts, 100)
		p.taken(50, 60, 40)
		p.refused(c.now, c.there+1, c.there)
		p.taken(c.now, c.there, 0)

		p = newPair(t, parts, 100)
		p.taken(50, 60, 40)
		p.taken(c.now, 0, c.there)
	}
}

// A moment that is no later brings nothing, however far behind it lies, but
// what is there can be taken.
func TestTheMomentNeverGoesBack(t *testing.T) {
	for _, back := range []int64{lowest, lowest + 1, -topCount, -1, 0, 1, 998, 999, 1000} {
		p := newPair(t, parts, 100)
		p.taken(1000, 100, 0)
		p.refused(back, 1, 0)
		p.taken(back, 0, 0)
		p.refused(1000, 1, 0)
		p.refused(back, -1, 0)
		p.taken(1003, 3, 0)
		p.refused(1002, 1, 0)
		p.taken(1004, 0, 1)
		p.taken(back, 1, 0)
		p.refused(1004, 1, 0)
	}
	for _, back := range []int64{lowest, -topCount, -100, -1, 0} {
		p := newPair(t, parts, 100)
		p.taken(back, 100, 0)
		p.refused(back, 1, 0)
		p.refused(0, 1, 0)
		p.taken(2, 2, 0)
	}
}

func TestTheMomentIsTheLaterOneAlsoWhereNothingIsTaken(t *testing.T) {
	for _, n := range []int64{lowest, -1, 0, 11, most, most + 1, 1 << 44, highest} {
		p := newPair(t, parts, 10)
		p.taken(0, 10, 0)
		if n == 0 {
			p.taken(4, n, 4)
		} else {
			p.refused(4, n, 4)
		}
		p.left(4)
		p.refused(3, 5, 4)
		p.taken(2, 3, 1)
		p.taken(5, 2, 0)
	}
	// What came is there up to the burst at each moment, not at the end alone.
	p := newPair(t, parts, 10)
	p.refused(100, 11, 10)
	p.taken(100, 10, 0)
	p.taken(101, 1, 0)
	p.refused(101, 1, 0)
}

func TestOneNanosecondAheadOfAWholeOne(t *testing.T) {
	for _, c := range []struct {
		rate, wait int64
	}{
		{1, 1048576}, {2, 524288}, {3, 349526}, {5, 209716}, {7, 149797}, {1000, 1049},
		{parts - 1, 2}, {parts / 2, 2}, {parts / 4, 4},
	} {
		for _, start := range []int64{0, 1, 12345, topCount - 1, topCount, highest - c.wait} {
			p := newPair(t, c.rate, 3)
			p.taken(start, 3, 0)
			p.refused(start+c.wait-1, 1, 0)
			p.taken(start+c.wait, 1, 0)

			x, _ := New(c.rate, 3)
			x.Take(start, 3)
			if x.Level(start+c.wait-1) != 0 || x.Level(start+c.wait) != 1 {
				t.Errorf("rate %d, from %d on: %d ahead of %d, %d at it",
					c.rate, start, x.Level(start+c.wait-1), c.wait, x.Level(start+c.wait))
			}
			if !x.Take(start+c.wait, 1) || x.Take(start+c.wait, 1) {
				t.Errorf("rate %d, from %d on: not one at %d", c.rate, start, c.wait)
			}
		}
	}
}

// What is more than a whole one isn't lost when the whole one is taken.
func TestWhatIsLeftOfAWholeOneStays(t *testing.T) {
	p := newPair(t, 3, 10)
	p.taken(0, 10, 0)
	p.refused(349525, 1, 0) // one part is lacking
	p.taken(349526, 1, 0)   // two parts stay
	p.refused(699050, 1, 0) // one part more would do
	p.taken(699051, 1, 0)
	p.taken(1048576, 1, 0) // all three, and nothing stays
	p.refused(1048576+349525, 1, 0)
	p.taken(1048576+349526, 1, 0)
}

// So long that the rate times the nanoseconds would be beyond MaxCount, and
// beyond what an int64 holds.
func TestOverALongWait(t *testing.T) {
	waits := []int64{
		1, parts, 1 << 32, 1<<32 + 1, 1 << 33, 1<<33 + 1, 1 << 34, 1<<34 + 1, 1 << 42, 1<<42 + 1, 1 << 43, 1<<44 + 1,
		1 << 50, 1 << 61, topCount - 1, topCount, topCount + 1, highest - 1, highest,
	}
	for _, rate := range []int64{0, 1, 3, parts, most - 1, most} {
		for _, burst := range []int64{1, most} {
			for _, wait := range waits {
				for _, start := range []int64{0, highest - wait} {
					p := newPair(t, rate, burst)
					p.taken(start, burst, 0)
					full := p.at(start+wait).Cmp(inParts(burst)) == 0
					if full != p.take(start+wait, burst) {
						t.Fatalf("rate %d, burst %d, wait %d: full %v", rate, burst, wait, full)
					}
					p.refused(start+wait, burst+1, p.tokens.Level(start+wait))
				}
			}
		}
	}
}

func TestOverALongWaitInNumbers(t *testing.T) {
	for _, c := range []struct {
		rate, burst, wait, there int64
	}{
		{0, 1, highest, 0}, {0, most, highest, 0},
		{1, 1, parts, 1}, {1, 1, highest, 1}, {1, most, topCount, most}, {1, most, highest, most},
		{1, most, 1<<50 - 1, most - 1}, {1, most, 1 << 50, most}, {1, most, 1 << 40, 1 << 20},
		{parts, 1, 1, 1}, {parts, most, 12345, 12345}, {parts, most, most - 1, most - 1}, {parts, most, most, most},
		{parts, most, 1 << 44, most}, {parts, 1, highest, 1}, {parts, most, highest, most},
		{most, 1, 1, 1}, {most, most, 1, 1 << 10}, {most, most, parts - 1, most - 1<<10}, {most, most, parts, most},
		{most, most, 1 << 34, most}, {most, 1, highest, 1}, {most, most, highest, most},
	} {
		p := newPair(t, c.rate, c.burst)
		p.taken(0, c.burst, 0)
		p.refused(c.wait, c.there+1, c.there)
		p.taken(c.wait, c.there, 0)
	}
}

func TestWithoutARateNothingComes(t *testing.T) {
	p := newPair(t, 0, 5)
	p.taken(0, 3, 2)
	p.refused(highest-1, 3, 2)
	p.taken(highest-1, 2, 0)
	p.refused(highest, 1, 0)
	p.taken(highest, 0, 0)
}

// Moments beyond MaxCount are moments as others are.
func TestBeyondMaxCount(t *testing.T) {
	for _, start := range []int64{topCount - 2, topCount - 1, topCount, topCount + 1, topCount + 1000, highest - 5} {
		p := newPair(t, parts, 10)
		p.taken(start, 10, 0)
		p.taken(start+2, 1, 1)
		p.refused(start+3, 3, 2)
		p.taken(start+5, 4, 0)
		p.refused(start+5, 1, 0)
	}
}

func TestNeverMoreThanTheBurst(t *testing.T) {
	for _, rate := range []int64{0, 1, 2, parts, most} {
		for _, burst := range []int64{1, 2, 10, most - 1, most} {
			p := newPair(t, rate, burst)
			for _, now := range []int64{0, 1, parts, 1 << 50, topCount, topCount + 1, highest} {
				p.taken(now, 0, burst)
				p.refused(now, burst+1, burst)
			}
			p.taken(highest, burst, 0)
			p.refused(highest, 1, 0)
		}
	}
	// Nor a part more: what came ahead of the full burst doesn't count.
	p := newPair(t, 1, 1)
	p.taken(parts/2, 1, 0)
	p.taken(2*parts, 0, 1)
	p.taken(2*parts+5, 1, 0)
	p.refused(3*parts+4, 1, 0)
	p.taken(3*parts+5, 1, 0)
}

// Many small waits are as good as one long one, while the burst isn't reached.
func TestSmallWaitsAreAsGoodAsOne(t *testing.T) {
	for _, rate := range []int64{1, 3, 999, parts - 1, parts, parts + 1, most} {
		for _, step := range []int64{1, 2, 7, 1000} {
			small, long := newPair(t, rate, most), newPair(t, rate, most)
			small.taken(0, most, 0)
			long.taken(0, most, 0)
			for k := range int64(200) {
				if now := (k + 1) * step; k%2 == 0 {
					small.tokens.Take(now, 0)
				} else {
					small.tokens.Take(now, -1)
				}
			}
			end := 200 * step
			want := new(big.Int).Div(came(rate, 0, end), big.NewInt(parts)).Int64()
			long.taken(end, 0, want)
			for _, more := range []int64{0, 1, 100, 349525, 349526, parts} {
				if a, b := small.tokens.Level(end+more), long.tokens.Level(end+more); a != b {
					t.Errorf("rate %d, %d behind waits of %d: %d, behind one: %d", rate, more, step, a, b)
				}
			}
		}
	}
	x, _ := New(1, 1)
	x.Take(0, 1)
	for now := int64(1); now < parts; now++ {
		if x.Take(now, 1) {
			t.Fatalf("Take(%d, 1): too early", now)
		}
	}
	if !x.Take(parts, 1) {
		t.Error("small waits were lost")
	}
}

func TestLevel(t *testing.T) {
	x, _ := New(parts/2, 10)
	x.Take(100, 7)
	for _, c := range []struct{ now, want int64 }{
		{100, 3}, {101, 3}, {102, 4}, {103, 4}, {104, 5}, {113, 9}, {114, 10}, {115, 10}, {116, 10},
		{topCount, 10}, {highest, 10},
		{99, 3}, {98, 3}, {1, 3}, {0, 3}, {-1, 3}, {-topCount, 3}, {lowest + 1, 3}, {lowest, 3},
	} {
		if got := x.Level(c.now); got != c.want {
			t.Errorf("Level(%d): %d, not %d", c.now, got, c.want)
		}
	}
}

func TestLevelChangesNothing(t *testing.T) {
	for _, now := range moments {
		p := newPair(t, parts, 10)
		p.taken(5, 10, 0)
		for range 3 {
			p.tokens.Level(now)
		}
		p.left(0)
		p.refused(5, 1, 0)
		p.taken(7, 1, 1)
		p.tokens.Level(now)
		p.refused(7, 2, 1)
		p.taken(8, 2, 0)
	}
}

func TestOfNone(t *testing.T) {
	var x *Tokens
	for _, now := range moments {
		for _, n := range numbers {
			if x.Take(now, n) {
				t.Errorf("Take(%d, %d) of none", now, n)
			}
		}
		if got := x.Level(now); got != 0 {
			t.Errorf("Level(%d) of none: %d", now, got)
		}
	}
}

// Of those that are made by hand nothing is promised but that no call panics.
func TestMadeByHand(t *testing.T) {
	for _, x := range []Tokens{
		{}, {rate: lowest, burst: lowest, there: lowest, moment: lowest},
		{rate: highest, burst: highest, there: highest, moment: highest},
		{rate: highest, burst: highest, there: highest, moment: lowest}, {rate: 1, moment: lowest},
	} {
		for _, now := range moments {
			for _, n := range numbers {
				y := x
				y.Take(now, n)
				y.Level(now)
			}
		}
	}
}

// At each moment each number, of new ones and behind a taking.
func TestEveryEdge(t *testing.T) {
	for _, rate := range []int64{0, 1, parts, most} {
		for _, burst := range []int64{1, 10, most} {
			for _, now := range moments {
				for _, n := range numbers {
					newPair(t, rate, burst).take(now, n)
					for _, first := range []int64{0, parts, topCount} {
						p := newPair(t, rate, burst)
						p.take(first, burst)
						p.take(now, n)
						p.take(now, n)
					}
				}
			}
		}
	}
}

func TestTwoDontDisturbEachOther(t *testing.T) {
	a, b := newPair(t, parts, 10), newPair(t, 1, 20)
	a.taken(3, 10, 0)
	b.check()
	b.taken(0, 5, 15)
	a.check()
	b.taken(parts, 16, 0)
	a.taken(4, 1, 0)
	b.check()
}

// drawnMoment is mostly a moment not long behind now.
func drawnMoment(draw *rand.Rand, now, far int64) int64 {
	switch draw.Intn(12) {
	case 0:
		return moments[draw.Intn(11)]
	case 1:
		return now - draw.Int63n(far)
	case 2, 3:
		return now
	case 4:
		if draw.Intn(30) == 0 {
			return highest - draw.Int63n(far)
		}
	}
	if now > highest-far {
		return now + draw.Int63n(highest-now+1)
	}
	return now + draw.Int63n(far)
}

// drawnNumber is mostly about as many as are there.
func drawnNumber(draw *rand.Rand, there, burst int64) int64 {
	switch draw.Intn(8) {
	case 0:
		return numbers[draw.Intn(len(numbers))]
	case 1:
		return there + 1
	case 2, 3:
		return there
	case 4:
		return burst
	}
	return draw.Int63n(there + 1)
}

var drawnRates = []int64{0, 1, 2, 3, 1000, parts - 1, parts, parts + 1, most - 1, most}
var drawnBursts = []int64{1, 2, 10, 1500, parts, most - 1, most}

func TestDrawnSteps(t *testing.T) {
	for seed := range int64(140) {
		draw := rand.New(rand.NewSource(seed))
		rate := drawnRates[seed%int64(len(drawnRates))]
		burst := drawnBursts[seed%int64(len(drawnBursts))]
		far := int64(1) << (1 + draw.Intn(40))
		p := newPair(t, rate, burst)
		for range 100 {
			now := drawnMoment(draw, p.moment, far)
			there := new(big.Int).Div(p.at(now), big.NewInt(parts)).Int64()
			p.take(now, drawnNumber(draw, there, burst))
		}
	}
}

// asking is one that was answered by true: so many were taken at this moment.
type asking struct{ moment, n int64 }

// holdBound asks from each moment to each later one whether no more than the
// burst and what came in between was taken.
func holdBound(t *testing.T, rate, burst int64, l []asking) {
	t.Helper()
	for from := range l {
		sum := new(big.Int)
		for _, to := range l[from:] {
			sum.Add(sum, inParts(to.n))
			bound := came(rate, l[from].moment, to.moment)
			if bound.Add(bound, inParts(burst)); sum.Cmp(bound) > 0 {
				t.Fatalf("rate %d, burst %d: from %d to %d taken %v parts, not more than %v",
					rate, burst, l[from].moment, to.moment, sum, bound)
			}
		}
	}
}

func TestNoMoreThanTheBurstAndWhatCame(t *testing.T) {
	for _, rate := range drawnRates {
		for _, burst := range drawnBursts {
			for seed := range int64(6) {
				draw := rand.New(rand.NewSource(seed))
				far := int64(1) << (1 + 7*seed)
				x, _ := New(rate, burst)
				var moment int64
				var l []asking
				for range 80 {
					now := drawnMoment(draw, moment, far)
					n := drawnNumber(draw, x.Level(now), burst)
					moment = max(moment, now)
					if x.Take(now, n) {
						l = append(l, asking{moment, n})
					}
				}
				holdBound(t, rate, burst, l)
			}
		}
	}
}

// Who is as greedy as can be, at each moment: takes all that is there, one more
// being refused.
func TestTheGreedyOneGetsNoMore(t *testing.T) {
	for _, rate := range drawnRates {
		for _, burst := range drawnBursts {
			for _, wait := range []int64{1, 2, 1000, parts - 1, parts, parts + 1, 1 << 40} {
				x, _ := New(rate, burst)
				var l []asking
				for k := range int64(40) {
					now := k * wait
					n := x.Level(now)
					if x.Take(now, n+1) {
						t.Fatalf("rate %d, burst %d: one more than %d taken at %d", rate, burst, n, now)
					}
					if !x.Take(now, n) {
						t.Fatalf("rate %d, burst %d: %d not taken at %d", rate, burst, n, now)
					}
					l = append(l, asking{now, n})
				}
				holdBound(t, rate, burst, l)
			}
		}
	}
}
