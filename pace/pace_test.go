package pace

import (
	"math"
	"math/big"
	"math/rand"
	"testing"

	"bailiff/api"
)

// The limits as the document writes them, so that a test doesn't take them
// from where the program does.
const (
	lastTime = int64(1)<<62 - 1
	topCount = int64(1) << 62
	longest  = 9216
	slowest  = int64(1000000)
)

// Lengths that are none, or just are one.
var lengths = []int{
	math.MinInt, math.MinInt + 1, math.MinInt32, -longest, -1, 0, 1, 2, 64, 1500,
	longest - 1, longest, longest + 1, 1 << 16, 1<<32 + 1, math.MaxInt - 1, math.MaxInt,
}

// Numbers that are no time, or just are one.
var moments = []int64{
	math.MinInt64, math.MinInt64 + 1, -lastTime, -1 << 32, -1, 0, 1, 100, 1 << 32,
	lastTime - slowest*longest - 1, lastTime - slowest*longest, lastTime - slowest*longest + 1,
	lastTime - 1, lastTime, lastTime + 1, lastTime + 2, math.MaxInt64 - 1, math.MaxInt64,
}

// answer is all that Send answers.
type answer struct {
	start, end int64
	e          api.Errno
}

func send(p *Pacer, now int64, n int) answer {
	start, end, e := p.Send(now, n)
	return answer{start, end, e}
}

// pair is a pacer, and from when on it ought to be free. Each step is done to
// both, and all that the pacer says of itself is held against the other
// behind it.
type pair struct {
	t     *testing.T
	pacer *Pacer
	ns    int64
	next  int64
}

func newPair(t *testing.T, ns int64) *pair {
	t.Helper()
	x, e := New(ns)
	if x == nil || e != api.OK {
		t.Fatalf("New(%d): %v, %v", ns, x, e)
	}
	p := &pair{t: t, pacer: x, ns: ns}
	p.check()
	return p
}

// want is what Send ought to answer: reckoned so that it can't go round.
func (p *pair) want(now int64, n int) answer {
	switch {
	case n < 1 || n > longest:
		return answer{e: api.ErrArg}
	case now < 0 || now > lastTime:
		return answer{e: api.ErrTime}
	case now < p.next:
		return answer{e: api.ErrBusy}
	}
	end := new(big.Int).Mul(big.NewInt(int64(n)), big.NewInt(p.ns))
	end.Add(end, big.NewInt(now))
	if end.Cmp(big.NewInt(topCount)) > 0 {
		return answer{now, topCount, api.OK}
	}
	return answer{now, end.Int64(), api.OK}
}

func (p *pair) send(now int64, n int) answer {
	p.t.Helper()
	want := p.want(now, n)
	if got := send(p.pacer, now, n); got != want {
		p.t.Fatalf("%d ns a byte, free from %d on: Send(%d, %d): %v, not %v", p.ns, p.next, now, n, got, want)
	}
	if want.e == api.OK {
		p.next = want.end
	}
	p.check()
	return want
}

// check asks around the end, and at the edges of what is a time. It asks
// twice, as to be asked must change nothing.
func (p *pair) check() {
	p.t.Helper()
	for range 2 {
		if got := p.pacer.Next(); got != p.next {
			p.t.Fatalf("Next: %d, not %d", got, p.next)
		}
		for _, now := range []int64{p.next - 1, p.next, p.next + 1} {
			p.free(now)
		}
		for _, now := range moments {
			p.free(now)
		}
	}
}

func (p *pair) free(now int64) {
	p.t.Helper()
	want := now >= 0 && now <= lastTime && now >= p.next
	if got := p.pacer.Free(now); got != want {
		p.t.Fatalf("Free(%d), free from %d on: %v", now, p.next, got)
	}
}

// sent ends the test unless it was sent, from now till end.
func (p *pair) sent(now int64, n int, end int64) {
	p.t.Helper()
	if got := p.send(now, n); got != (answer{now, end, api.OK}) {
		p.t.Fatalf("Send(%d, %d): %v, not till %d", now, n, got, end)
	}
}

// refused ends the test unless it was refused for this error.
func (p *pair) refused(now int64, n int, e api.Errno) {
	p.t.Helper()
	if got := p.send(now, n); got != (answer{e: e}) {
		p.t.Fatalf("Send(%d, %d): %v, not %v", now, n, got, e)
	}
}

func TestNew(t *testing.T) {
	for _, ns := range []int64{math.MinInt64, math.MinInt64 + 1, -slowest, -1, 0, slowest + 1, 1<<32 + 1, math.MaxInt64} {
		if p, e := New(ns); p != nil || e != api.ErrArg {
			t.Errorf("New(%d): %v, %v", ns, p, e)
		}
	}
	for _, ns := range []int64{1, 2, 8, slowest - 1, slowest} {
		newPair(t, ns)
	}
}

func TestFreeOfANewOne(t *testing.T) {
	p, _ := New(8)
	for _, c := range []struct {
		now  int64
		want bool
	}{
		{math.MinInt64, false}, {-1, false}, {0, true}, {1, true},
		{lastTime, true}, {lastTime + 1, false}, {math.MaxInt64, false},
	} {
		if got := p.Free(c.now); got != c.want {
			t.Errorf("Free(%d): %v", c.now, got)
		}
	}
}

func TestFreeBehindASending(t *testing.T) {
	p := newPair(t, 8)
	p.sent(100, 64, 612)
	for _, c := range []struct {
		now  int64
		want bool
	}{
		{math.MinInt64, false}, {-1, false}, {0, false}, {99, false}, {100, false}, {101, false},
		{611, false}, {612, true}, {613, true},
		{lastTime, true}, {lastTime + 1, false}, {math.MaxInt64, false},
	} {
		if got := p.pacer.Free(c.now); got != c.want {
			t.Errorf("Free(%d): %v", c.now, got)
		}
	}
}

func TestSendAsInTheChapter(t *testing.T) {
	p := newPair(t, 8)
	p.sent(100, 64, 612)
	p.refused(611, 64, api.ErrBusy)
	p.sent(612, 64, 1124)
}

func TestSendOfEachLength(t *testing.T) {
	for _, c := range []struct {
		n    int
		want answer
	}{
		{math.MinInt, answer{e: api.ErrArg}}, {-1, answer{e: api.ErrArg}}, {0, answer{e: api.ErrArg}},
		{1, answer{50, 57, api.OK}}, {longest, answer{50, 64562, api.OK}},
		{longest + 1, answer{e: api.ErrArg}}, {1<<32 + 1, answer{e: api.ErrArg}}, {math.MaxInt, answer{e: api.ErrArg}},
	} {
		p := newPair(t, 7)
		if got := p.send(50, c.n); got != c.want {
			t.Errorf("Send(50, %d): %v, not %v", c.n, got, c.want)
		}
	}
}

func TestSendAtEachMoment(t *testing.T) {
	for _, c := range []struct {
		now  int64
		want answer
	}{
		{math.MinInt64, answer{e: api.ErrTime}}, {-1, answer{e: api.ErrTime}},
		{0, answer{0, 320, api.OK}}, {1, answer{1, 321, api.OK}}, {1 << 40, answer{1 << 40, 1<<40 + 320, api.OK}},
		{lastTime, answer{lastTime, topCount, api.OK}},
		{lastTime + 1, answer{e: api.ErrTime}}, {math.MaxInt64, answer{e: api.ErrTime}},
	} {
		p := newPair(t, 5)
		if got := p.send(c.now, 64); got != c.want {
			t.Errorf("Send(%d, 64): %v, not %v", c.now, got, c.want)
		}
	}
}

func TestSendAtEachPace(t *testing.T) {
	for _, c := range []struct {
		ns    int64
		n     int
		lasts int64
	}{
		{1, 1, 1}, {1, longest, 9216}, {2, 3, 6}, {8, 1500, 12000},
		{slowest, 1, 1000000}, {slowest, longest, 9216000000}, {slowest - 1, longest, 9215990784},
	} {
		for _, now := range []int64{0, 1, 12345, lastTime - c.lasts} {
			newPair(t, c.ns).sent(now, c.n, now+c.lasts)
		}
	}
}

func TestBusyTillTheEnd(t *testing.T) {
	for _, ns := range []int64{1, 8, slowest} {
		for _, n := range []int{1, 64, longest} {
			p := newPair(t, ns)
			end := 1000 + ns*int64(n)
			p.sent(1000, n, end)
			for _, now := range []int64{0, 999, 1000, end - 1} {
				p.refused(now, 1, api.ErrBusy)
			}
			p.sent(end, 1, end+ns)
			p.refused(end, 1, api.ErrBusy)
			p.sent(end+ns+1, 1, end+ns+1+ns)
		}
	}
}

// A length is asked for first, then the time, then whether it is free.
func TestWhichErrorComesFirst(t *testing.T) {
	for _, n := range []int{math.MinInt, -1, 0, longest + 1, math.MaxInt} {
		for _, now := range []int64{math.MinInt64, -1, lastTime + 1, math.MaxInt64} {
			newPair(t, 8).refused(now, n, api.ErrArg)

			p := newPair(t, 8)
			p.sent(100, 64, 612)
			p.refused(now, n, api.ErrArg)
			p.refused(611, n, api.ErrArg)
			p.refused(now, 64, api.ErrTime)

			p = newPair(t, 8)
			p.sent(lastTime, 64, topCount)
			p.refused(now, n, api.ErrArg)
			p.refused(lastTime, n, api.ErrArg)
			p.refused(now, 64, api.ErrTime)
			p.refused(lastTime, 64, api.ErrBusy)
		}
	}
}

func TestWhatIsRefusedChangesNothing(t *testing.T) {
	p := newPair(t, 8)
	p.refused(50, 0, api.ErrArg)
	p.refused(50, longest+1, api.ErrArg)
	p.refused(-1, 64, api.ErrTime)
	p.refused(lastTime+1, 64, api.ErrTime)
	if got := p.pacer.Next(); got != 0 {
		t.Errorf("Next of one that sent nothing: %d", got)
	}
	p.sent(0, 1, 8)
	p.refused(7, 64, api.ErrBusy)
	p.refused(9, -1, api.ErrArg)
	p.refused(-1, 64, api.ErrTime)
	if got := p.pacer.Next(); got != 8 {
		t.Errorf("Next behind what was refused: %d", got)
	}
	p.sent(8, 1, 16)
}

// An end that is a time is the last one at which it can be free; at MaxCount
// it is free at no time any more.
func TestNearTheLastTime(t *testing.T) {
	for _, ns := range []int64{1, 8, slowest} {
		for _, n := range []int{1, 64, longest} {
			lasts := ns * int64(n)

			p := newPair(t, ns)
			p.sent(lastTime-lasts, n, lastTime)
			if !p.pacer.Free(lastTime) || p.pacer.Free(lastTime-1) {
				t.Fatalf("%d bytes of %d ns till the last time: not free then, or ahead of it", n, ns)
			}
			p.sent(lastTime, 1, topCount)

			for _, now := range []int64{lastTime - lasts + 1, lastTime - lasts + 2, lastTime - 1, lastTime} {
				if now > lastTime || now <= lastTime-lasts {
					continue
				}
				p = newPair(t, ns)
				p.sent(now, n, topCount)
				if p.pacer.Free(lastTime) || p.pacer.Free(topCount) || p.pacer.Next() != topCount {
					t.Fatalf("%d bytes of %d ns at %d: free behind that, or Next %d", n, ns, now, p.pacer.Next())
				}
				p.refused(lastTime, 1, api.ErrBusy)
				p.refused(topCount, 1, api.ErrTime)
			}
		}
	}
}

func TestManyOneBehindTheOther(t *testing.T) {
	for _, ns := range []int64{1, 3, 8, 999, slowest} {
		p := newPair(t, ns)
		var now int64
		for k := range 500 {
			n := 1 + k*7919%longest
			p.sent(now, n, now+int64(n)*ns)
			p.refused(p.next-1, n, api.ErrBusy)
			now = p.pacer.Next()
		}
	}
}

func TestNext(t *testing.T) {
	p, _ := New(10)
	for _, c := range []struct {
		now  int64
		n    int
		e    api.Errno
		next int64
	}{
		{5, 0, api.ErrArg, 0}, {-1, 5, api.ErrTime, 0},
		{5, 5, api.OK, 55}, {54, 5, api.ErrBusy, 55}, {55, longest + 1, api.ErrArg, 55}, {-1, 5, api.ErrTime, 55},
		{70, 2, api.OK, 90}, {90, 1, api.OK, 100}, {lastTime, 1, api.OK, topCount}, {lastTime, 1, api.ErrBusy, topCount},
	} {
		if got := send(p, c.now, c.n); got.e != c.e {
			t.Fatalf("Send(%d, %d): %v, not %v", c.now, c.n, got, c.e)
		}
		if got := p.Next(); got != c.next {
			t.Fatalf("Next behind Send(%d, %d): %d, not %d", c.now, c.n, got, c.next)
		}
	}
	if p, _ := New(10); p.Next() != 0 {
		t.Errorf("Next of a new one: %d", p.Next())
	}
}

func TestOfNone(t *testing.T) {
	var p *Pacer
	for _, now := range moments {
		if p.Free(now) {
			t.Errorf("Free(%d) of none", now)
		}
		for _, n := range lengths {
			if got := send(p, now, n); got != (answer{e: api.ErrArg}) {
				t.Errorf("Send(%d, %d) of none: %v", now, n, got)
			}
		}
	}
	if got := p.Next(); got != 0 {
		t.Errorf("Next of none: %d", got)
	}
}

// Of one that is made by hand nothing is promised but that no call panics.
func TestMadeByHand(t *testing.T) {
	for _, p := range []*Pacer{{}, {ns: math.MinInt64}, {ns: math.MaxInt64, next: math.MinInt64}, {next: math.MaxInt64}} {
		for _, now := range moments {
			for _, n := range lengths {
				p.Free(now)
				p.Send(now, n)
				p.Next()
			}
		}
	}
}

// At each moment with each length, when nothing was sent, and when something
// was.
func TestEveryEdge(t *testing.T) {
	for _, ns := range []int64{1, 8, slowest} {
		for _, now := range moments {
			for _, n := range lengths {
				newPair(t, ns).send(now, n)
				for _, first := range []int64{0, 100, lastTime - 1, lastTime} {
					p := newPair(t, ns)
					p.sent(first, 64, p.want(first, 64).end)
					p.send(now, n)
					p.send(now, n)
				}
			}
		}
	}
}

func TestTwoDontDisturbEachOther(t *testing.T) {
	a, b := newPair(t, 8), newPair(t, 3)
	a.sent(100, 64, 612)
	b.check()
	b.sent(0, 10, 30)
	a.check()
	a.refused(31, 10, api.ErrBusy)
	b.sent(31, 10, 61)
	a.sent(612, 1, 620)
	b.check()
}

// Drawn steps, mostly near the end of what was sent last.
func TestDrawnSteps(t *testing.T) {
	for seed := range int64(60) {
		draw := rand.New(rand.NewSource(seed))
		ns := 1 + draw.Int63n([]int64{4, 100, slowest}[seed%3])
		p := newPair(t, ns)
		for range 300 {
			n := 1 + draw.Intn(longest)
			now := p.next
			switch draw.Intn(8) {
			case 0:
				n = lengths[draw.Intn(len(lengths))]
			case 1:
				now = moments[draw.Intn(5)]
			case 2:
				now--
			case 3:
				now -= draw.Int63n(ns * longest)
			case 4:
				now += draw.Int63n(ns * longest)
			case 5:
				if draw.Intn(100) == 0 {
					now = lastTime - draw.Int63n(ns*longest)
				}
			}
			p.send(now, n)
		}
	}
}

// What was sent doesn't overlap, whenever somebody asked, and the wire lies
// idle only when nobody did.
func TestNothingOverlaps(t *testing.T) {
	draw := rand.New(rand.NewSource(16))
	p, _ := New(3)
	var end int64
	for now := int64(0); now < 20000; now++ {
		n := 1 + draw.Intn(200)
		free := p.Free(now)
		got := send(p, now, n)
		switch {
		case free != (got.e == api.OK):
			t.Fatalf("Free(%d): %v, and Send: %v", now, free, got)
		case free != (now >= end):
			t.Fatalf("Free(%d): %v, where what was sent ends at %d", now, free, end)
		case free && (got.start != now || got.end-got.start != 3*int64(n)):
			t.Fatalf("Send(%d, %d): %v", now, n, got)
		case free:
			end = got.end
		}
	}
}
