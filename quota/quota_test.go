package quota

import (
	"math"
	"math/big"
	"math/rand"
	"slices"
	"testing"

	"bailiff/api"
)

// Numbers that are no size, or just are one.
var sizes = []int64{
	math.MinInt64, math.MinInt64 + 1, -1 << 32, -1, 0, 1, 9,
	api.MaxBytes - 1, api.MaxBytes, api.MaxBytes + 1, 2 * api.MaxBytes, 1 << 32,
	math.MaxInt64 - api.MaxBytes, math.MaxInt64 - 1, math.MaxInt64,
}

// pair is a quota, and what each of its classes ought to have. Each step is
// done to both, and all that the quota says of itself is held against the
// other behind it.
type pair struct {
	t              *testing.T
	quota          *Quota
	reserve, limit int64
	want           []int64
}

func newPair(t *testing.T, classes int, reserve, shared int64) *pair {
	t.Helper()
	q, e := New(classes, reserve, shared)
	if q == nil || e != api.OK {
		t.Fatalf("New(%d, %d, %d): %v, %v", classes, reserve, shared, q, e)
	}
	p := &pair{t: t, quota: q, reserve: reserve, limit: shared, want: make([]int64, classes)}
	p.check()
	return p
}

// there is whether there ought to be such a class.
func (p *pair) there(class int) bool { return class >= 0 && class < len(p.want) }

// shared is what ought to be shared, if the classes had these bytes: counted
// anew, class by class, and so that it can't go round.
func (p *pair) shared(bytes []int64) *big.Int {
	all := new(big.Int)
	for _, n := range bytes {
		if n > p.reserve {
			all.Add(all, big.NewInt(n))
			all.Sub(all, big.NewInt(p.reserve))
		}
	}
	return all
}

// holds is whether n bytes more of the class ought to fit.
func (p *pair) holds(class int, n int64) bool {
	if !p.there(class) || n < 0 || n > api.MaxBytes {
		return false
	}
	with := slices.Clone(p.want)
	with[class] += n
	return p.shared(with).Cmp(big.NewInt(p.limit)) <= 0
}

func (p *pair) fits(class int, n int64) bool {
	p.t.Helper()
	want := p.holds(class, n)
	if got := p.quota.Fits(class, n); got != want {
		p.t.Fatalf("Fits(%d, %d) with %v: %v", class, n, p.want, got)
	}
	p.check()
	return want
}

func (p *pair) add(class int, n int64) bool {
	p.t.Helper()
	want := p.fits(class, n)
	if got := p.quota.Add(class, n); got != want {
		p.t.Fatalf("Add(%d, %d) with %v: %v", class, n, p.want, got)
	}
	if want {
		p.want[class] += n
	}
	p.check()
	return want
}

func (p *pair) sub(class int, n int64) bool {
	p.t.Helper()
	want := p.there(class) && n >= 0 && n <= p.want[class]
	if got := p.quota.Sub(class, n); got != want {
		p.t.Fatalf("Sub(%d, %d) with %v: %v", class, n, p.want, got)
	}
	if want {
		p.want[class] -= n
	}
	p.check()
	return want
}

func (p *pair) move(from, to int, n int64) bool {
	p.t.Helper()
	want := p.there(from) && p.there(to) && n >= 0 && n <= p.want[from]
	if got := p.quota.Move(from, to, n); got != want {
		p.t.Fatalf("Move(%d, %d, %d) with %v: %v", from, to, n, p.want, got)
	}
	if want {
		p.want[from] -= n
		p.want[to] += n
	}
	p.check()
	return want
}

// check asks every class, and some that there aren't.
func (p *pair) check() {
	p.t.Helper()
	for class, want := range p.want {
		if got := p.quota.Bytes(class); got != want {
			p.t.Fatalf("Bytes(%d) with %v: %d", class, p.want, got)
		}
	}
	for _, class := range p.none() {
		if got := p.quota.Bytes(class); got != 0 {
			p.t.Fatalf("Bytes(%d) of %d classes: %d", class, len(p.want), got)
		}
	}
	if got, want := p.quota.Shared(), p.shared(p.want); want.Cmp(big.NewInt(got)) != 0 {
		p.t.Fatalf("Shared with %v, reserve %d: %d, not %v", p.want, p.reserve, got, want)
	}
}

// none is classes that there aren't.
func (p *pair) none() []int {
	return []int{math.MinInt, math.MinInt32, -1, len(p.want), len(p.want) + 1, math.MaxInt32, math.MaxInt}
}

// must ends the test unless each of the steps went as it ought to.
func must(t *testing.T, steps ...bool) {
	t.Helper()
	for i, ok := range steps {
		if !ok {
			t.Fatalf("step %d", i)
		}
	}
}

func TestNew(t *testing.T) {
	right := func(n int64) bool { return n >= 0 && n <= 1<<30 }
	classes := []int{math.MinInt, -1, 0, 1, 2, 64, 128, 129, 130, 1 << 32, math.MaxInt}
	for _, c := range classes {
		for _, reserve := range sizes {
			for _, shared := range sizes {
				q, e := New(c, reserve, shared)
				if c >= 1 && c <= 129 && right(reserve) && right(shared) {
					if q == nil || e != api.OK {
						t.Fatalf("New(%d, %d, %d): %v, %v", c, reserve, shared, q, e)
					}
				} else if q != nil || e != api.ErrArg {
					t.Fatalf("New(%d, %d, %d): %v, %v", c, reserve, shared, q, e)
				}
			}
		}
	}
}

func TestNewHasNothing(t *testing.T) {
	for _, classes := range []int{1, 2, 129} {
		for _, reserve := range []int64{0, 1, api.MaxBytes} {
			for _, shared := range []int64{0, 1, api.MaxBytes} {
				newPair(t, classes, reserve, shared)
			}
		}
	}
}

func TestQuotasAreApart(t *testing.T) {
	a, b := newPair(t, 2, 10, 5), newPair(t, 2, 10, 5)
	must(t, a.add(0, 15))
	b.check()
	must(t, b.add(1, 12))
	a.check()
}

func TestExample(t *testing.T) {
	q, e := New(2, 10, 5)
	if e != api.OK || !q.Add(0, 15) || q.Add(0, 1) || !q.Add(1, 10) {
		t.Fatal(e, q.Bytes(0), q.Bytes(1))
	}
	if q.Bytes(0) != 15 || q.Bytes(1) != 10 || q.Shared() != 5 {
		t.Error(q.Bytes(0), q.Bytes(1), q.Shared())
	}
}

// At each number of bytes that a class has, each further number is asked:
// within the reserve, just at it, beyond it, up to all that is shared, and
// more than that.
func TestAddAtTheEdges(t *testing.T) {
	for reserve := range int64(4) {
		for shared := range int64(4) {
			for has := range reserve + shared + 1 {
				for n := range reserve + shared + 3 {
					p := newPair(t, 2, reserve, shared)
					must(t, p.add(1, has))
					if got := p.add(1, n); got != (has+n <= reserve+shared) {
						t.Fatalf("%d more than %d, reserve %d, shared %d: %v", n, has, reserve, shared, got)
					}
				}
			}
		}
	}
}

func TestAddTogether(t *testing.T) {
	p := newPair(t, 4, 10, 5)
	must(t, p.add(0, 12), p.add(1, 12), p.quota.Shared() == 4)
	must(t, !p.add(2, 12), p.add(2, 11), p.quota.Shared() == 5)
	for class := range 3 {
		must(t, !p.add(class, 1), p.add(class, 0))
	}
	// Who is within the reserve needs nothing of what is shared.
	must(t, p.add(3, 4), !p.add(3, 7), p.add(3, 6), !p.add(3, 1))
	must(t, p.quota.Shared() == 5)
}

func TestNothingForAnybody(t *testing.T) {
	p := newPair(t, 2, 0, 0)
	must(t, p.add(0, 0), !p.add(0, 1), p.sub(1, 0), !p.sub(1, 1), p.move(0, 1, 0), !p.move(0, 1, 1))
}

func TestClassesThatThereArent(t *testing.T) {
	p := newPair(t, 3, 10, 5)
	must(t, p.add(0, 12), p.add(2, 3))
	for _, class := range p.none() {
		for _, n := range []int64{math.MinInt64, -1, 0, 1, api.MaxBytes, math.MaxInt64} {
			must(t, !p.fits(class, n), !p.add(class, n), !p.sub(class, n))
			must(t, !p.move(class, 0, n), !p.move(0, class, n), !p.move(class, class, n))
		}
	}
}

func TestNumbersThatAreNone(t *testing.T) {
	for _, shared := range []int64{0, 5, api.MaxBytes} {
		for _, n := range sizes {
			p := newPair(t, 2, api.MaxBytes, shared)
			must(t, p.add(1, 7))
			must(t, p.add(0, n) == (n >= 0 && n <= api.MaxBytes))
			p.sub(1, n)
			p.move(1, 0, n)
			p.move(0, 1, n)
			p.move(0, 0, n)
		}
	}
}

// A class may have as much as its reserve and all that is shared, which is
// more than any one Add may ask for.
func TestMoreThanOneAddMayAsk(t *testing.T) {
	p := newPair(t, 2, api.MaxBytes, api.MaxBytes)
	must(t, !p.add(0, api.MaxBytes+1), p.add(0, api.MaxBytes), p.add(0, api.MaxBytes), !p.add(0, 1))
	must(t, p.quota.Bytes(0) == 1<<31, p.quota.Shared() == 1<<30)
	must(t, p.move(0, 1, api.MaxBytes+1), p.sub(1, api.MaxBytes+1), p.sub(0, api.MaxBytes-1))
}

func TestFarAboveMaxBytes(t *testing.T) {
	p := newPair(t, 129, api.MaxBytes, api.MaxBytes)
	must(t, p.add(7, api.MaxBytes))
	for class := range 129 {
		must(t, p.add(class, api.MaxBytes))
	}
	for class := range 129 {
		must(t, !p.add(class, 1), !p.add(class, api.MaxBytes))
	}
	for class := 1; class < 129; class++ {
		must(t, p.move(class, 0, p.want[class]))
	}
	must(t, p.quota.Bytes(0) == 130<<30, p.quota.Shared() == 129<<30)
	must(t, !p.add(0, 0), !p.add(128, api.MaxBytes), !p.sub(0, 130<<30+1), p.sub(0, 130<<30))
	must(t, p.quota.Shared() == 0, p.add(128, api.MaxBytes))
}

func TestSub(t *testing.T) {
	p := newPair(t, 3, 10, 5)
	must(t, p.add(0, 15), !p.add(1, 11))
	must(t, !p.sub(0, 16), !p.sub(0, -1), !p.sub(0, math.MinInt64), !p.sub(0, math.MaxInt64))
	must(t, p.sub(0, 0), p.quota.Shared() == 5)
	must(t, p.sub(0, 2), p.quota.Shared() == 3, p.add(1, 12), p.quota.Shared() == 5)
	must(t, p.sub(0, 4), p.quota.Shared() == 2, p.quota.Bytes(0) == 9)
	must(t, p.sub(0, 9), !p.sub(0, 1), p.sub(0, 0), p.quota.Shared() == 2)
	must(t, !p.sub(1, 13), p.sub(1, 12), p.quota.Shared() == 0)
	must(t, !p.sub(2, 1), p.add(2, 15))
}

func TestMove(t *testing.T) {
	p := newPair(t, 3, 10, 5)
	must(t, p.add(0, 13), p.add(1, 4))
	must(t, p.move(0, 2, 6), p.quota.Shared() == 0, p.move(2, 0, 6), p.quota.Shared() == 3)
	must(t, !p.move(0, 1, 14), !p.move(2, 0, 1), !p.move(0, 1, -1), !p.move(0, 1, math.MinInt64))
	must(t, !p.move(0, 1, math.MaxInt64))
	must(t, p.move(0, 1, 0), p.move(2, 1, 0))
	must(t, p.move(0, 1, 13), p.quota.Bytes(0) == 0, p.quota.Bytes(1) == 17, p.quota.Shared() == 7)
}

func TestMoveToItself(t *testing.T) {
	p := newPair(t, 2, 10, 5)
	must(t, p.add(1, 12))
	for _, n := range []int64{0, 1, 2, 3, 12} {
		must(t, p.move(1, 1, n), p.quota.Bytes(1) == 12, p.quota.Shared() == 2)
	}
	must(t, !p.move(1, 1, 13), !p.move(1, 1, -1), p.move(0, 0, 0), !p.move(0, 0, 1))
}

// What is moved needn't fit. While more is shared than there is, nobody is
// given anything, not even within the reserve.
func TestMoveWhereItDoesntFit(t *testing.T) {
	p := newPair(t, 3, 10, 5)
	must(t, p.add(0, 15), p.add(1, 10), !p.fits(0, 10))
	must(t, p.move(1, 0, 10), p.quota.Bytes(0) == 25, p.quota.Shared() == 15)
	for class := range 3 {
		must(t, !p.add(class, 0), !p.add(class, 1), !p.add(class, 10))
	}
	must(t, p.sub(0, 9), p.quota.Shared() == 6, !p.add(2, 1))
	must(t, p.sub(0, 1), p.quota.Shared() == 5, p.add(2, 1), !p.add(0, 1))
	must(t, p.move(0, 0, 15), p.move(0, 2, 15), p.quota.Shared() == 6, p.move(2, 1, 16))
}

func TestDrawnSteps(t *testing.T) {
	draw := rand.New(rand.NewSource(14))
	for range 400 {
		classes := 1 + draw.Intn(5)
		scale := []int64{1, 20, api.MaxBytes / 40}[draw.Intn(3)]
		p := newPair(t, classes, draw.Int63n(20)*scale, draw.Int63n(40)*scale)
		size := func() int64 { return (draw.Int63n(26)-2)*scale + draw.Int63n(3) - 1 }
		class := func() int { return draw.Intn(classes*8+2)/8 - draw.Intn(16)/15 }
		for range 200 {
			switch draw.Intn(8) {
			case 0, 1, 2, 3:
				p.add(class(), size())
			case 4, 5:
				p.sub(class(), size())
			case 6:
				p.move(class(), class(), size())
			default:
				p.fits(class(), size())
			}
		}
	}
}

func TestNilAndByHand(t *testing.T) {
	for _, q := range []*Quota{nil, {}} {
		for _, class := range []int{math.MinInt, -1, 0, 1, 128, math.MaxInt} {
			for _, n := range sizes {
				if q.Fits(class, n) || q.Add(class, n) || q.Sub(class, n) {
					t.Fatalf("class %d, %d", class, n)
				}
				if q.Move(class, 0, n) || q.Move(0, class, n) || q.Move(class, class, n) {
					t.Fatalf("class %d, %d", class, n)
				}
			}
			if q.Bytes(class) != 0 {
				t.Fatalf("Bytes(%d)", class)
			}
		}
		if q.Shared() != 0 {
			t.Fatal("Shared")
		}
	}
}
