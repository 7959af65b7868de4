package box

import (
	"math"
	"math/big"
	"slices"
	"strings"
	"testing"

	"bailiff/api"
)

// The limits as the document writes them, so that a test doesn't take them
// from where the program does.
const (
	topSlots = 64
	most     = int64(1) << 30
	parts    = int64(1) << 20
	topCount = int64(1) << 62
	topTime  = topCount - 1
	lowest   = int64(math.MinInt64)
	highest  = int64(math.MaxInt64)
)

// Moments at the edges, and moments at which no term can be over.
var (
	moments = []int64{
		lowest, lowest + 1, -topCount, -1, 0, 1, 2, 9, 10, 11, 100, parts, 1 << 40,
		topTime - 1, topTime, topTime + 1, topTime + 2, highest - 1, highest,
	}
	never = []int64{lowest, 0}
)

// four is a prefix of IPv4, six one of IPv6, whose Addr begins so.
func four(addr ...byte) api.Prefix { return prefix(false, addr) }
func six(addr ...byte) api.Prefix  { return prefix(true, addr) }

func prefix(v6 bool, addr []byte) api.Prefix {
	p := api.Prefix{V6: v6}
	copy(p.Addr[:], addr)
	return p
}

// who is the n-th prefix. Their order is another one than that of n.
func who(n int) api.Prefix { return prefix(n%3 == 1, []byte{byte(n * 7), 1, byte(n >> 8), byte(n)}) }

// text is p as a text; texts' own order is that of the prefixes.
func text(p api.Prefix) string {
	if p.V6 {
		return "6" + string(p.Addr[:])
	}
	return "4" + string(p.Addr[:])
}

// guest is one in the plain second way: the end is reckoned in numbers that
// hold it, whatever the moment and the term, and what is there as parts of a
// 2^20th in numbers that can't go round.
type guest struct {
	name   api.Prefix
	end    uint64
	moment int64
	there  *big.Int
}

// plain is a plain second way: a list of guests, as they came.
type plain struct {
	room              int
	term, rate, burst int64
	guests            []*guest
}

func inParts(n int64) *big.Int {
	return new(big.Int).Mul(big.NewInt(n), big.NewInt(parts))
}

// let lets those go whose term is over, and is what is there of x, if it is in.
func (p *plain) let(x api.Prefix, now int64) *guest {
	p.guests = slices.DeleteFunc(p.guests, func(g *guest) bool { return g.end <= uint64(max(now, 0)) })
	return p.find(x)
}

func (p *plain) find(x api.Prefix) *guest {
	for _, g := range p.guests {
		if g.name == x {
			return g
		}
	}
	return nil
}

func (p *plain) put(x api.Prefix, now int64) api.Errno {
	now = max(now, 0)
	if p.let(x, now) != nil {
		return api.ErrTwice
	}
	if len(p.guests) == p.room {
		return api.ErrFull
	}
	end := min(uint64(now)+uint64(p.term), uint64(topCount))
	p.guests = append(p.guests, &guest{x, end, now, inParts(p.burst)})
	return api.OK
}

// at is how many parts g has at now.
func (p *plain) at(g *guest, now int64) *big.Int {
	if now <= g.moment {
		return g.there
	}
	sum := new(big.Int).Sub(big.NewInt(now), big.NewInt(g.moment))
	sum.Mul(sum, big.NewInt(p.rate))
	sum.Add(sum, g.there)
	if top := inParts(p.burst); sum.Cmp(top) > 0 {
		return top
	}
	return sum
}

// level is how many whole ones g has at now.
func (p *plain) level(g *guest, now int64) int64 {
	return new(big.Int).Div(p.at(g, now), big.NewInt(parts)).Int64()
}

func (p *plain) take(x api.Prefix, now, n int64) bool {
	g := p.let(x, now)
	if g == nil {
		return false
	}
	g.there, g.moment = p.at(g, now), max(g.moment, now)
	if n < 0 || n > most || n > p.level(g, now) {
		return false
	}
	g.there = new(big.Int).Sub(g.there, inParts(n))
	return true
}

func (p *plain) drop(x api.Prefix, now int64) bool {
	g := p.let(x, now)
	p.guests = slices.DeleteFunc(p.guests, func(h *guest) bool { return h == g })
	return g != nil
}

func (p *plain) all() []api.Prefix {
	var l []api.Prefix
	for _, g := range p.guests {
		l = append(l, g.name)
	}
	return sorted(l)
}

// sorted is l, sorted by the texts.
func sorted(l []api.Prefix) []api.Prefix {
	slices.SortFunc(l, func(a, b api.Prefix) int { return strings.Compare(text(a), text(b)) })
	return l
}

// pair is a box, and a plain second one. Each step is done to both, and all
// that the box says of itself is held against the other behind it.
type pair struct {
	t     *testing.T
	box   *Box
	plain plain
	seen  []api.Prefix
}

func newPair(t *testing.T, room int, term, rate, burst int64) *pair {
	t.Helper()
	b, e := New(room, term, rate, burst)
	if b == nil || e != api.OK {
		t.Fatalf("New(%d, %d, %d, %d): %v, %v", room, term, rate, burst, b, e)
	}
	p := &pair{t: t, box: b, seen: []api.Prefix{{}, {V6: true}}}
	p.plain = plain{room: room, term: term, rate: rate, burst: burst}
	p.check()
	return p
}

// put lets x be put into both, and wants this to be told.
func (p *pair) put(x api.Prefix, now int64, want api.Errno) {
	p.t.Helper()
	if got := p.tryPut(x, now); got != want {
		p.t.Fatalf("Put(%v, %d): %v, not %v", x, now, got, want)
	}
}

func (p *pair) tryPut(x api.Prefix, now int64) api.Errno {
	p.t.Helper()
	before, want := p.plain.all(), p.plain.put(x, now)
	if got := p.box.Put(x, now); got != want {
		p.t.Fatalf("Put(%v, %d) with %v: %v, not %v", x, now, before, got, want)
	}
	p.look(x)
	return want
}

// in asks both for x, and wants this to be told.
func (p *pair) in(x api.Prefix, now int64, want bool) {
	p.t.Helper()
	if got := p.tryIn(x, now); got != want {
		p.t.Fatalf("In(%v, %d): %v", x, now, got)
	}
}

func (p *pair) tryIn(x api.Prefix, now int64) bool {
	p.t.Helper()
	before, want := p.plain.all(), p.plain.let(x, now) != nil
	if got := p.box.In(x, now); got != want {
		p.t.Fatalf("In(%v, %d) with %v: %v", x, now, before, got)
	}
	p.look(x)
	return want
}

// take takes of both, and wants this to be told.
func (p *pair) take(x api.Prefix, now, n int64, want bool) {
	p.t.Helper()
	if got := p.tryTake(x, now, n); got != want {
		p.t.Fatalf("Take(%v, %d, %d): %v", x, now, n, got)
	}
}

func (p *pair) tryTake(x api.Prefix, now, n int64) bool {
	p.t.Helper()
	before, want := p.plain.all(), p.plain.take(x, now, n)
	if got := p.box.Take(x, now, n); got != want {
		p.t.Fatalf("Take(%v, %d, %d) with %v: %v", x, now, n, before, got)
	}
	p.look(x)
	return want
}

// has takes all that x ought to have, behind one more that it ought not.
func (p *pair) has(x api.Prefix, now, n int64) {
	p.t.Helper()
	p.take(x, now, n+1, false)
	p.take(x, now, n, true)
	p.take(x, now, 1, false)
}

// drop drops x of both, and wants this to be told.
func (p *pair) drop(x api.Prefix, now int64, want bool) {
	p.t.Helper()
	if got := p.tryDrop(x, now); got != want {
		p.t.Fatalf("Drop(%v, %d): %v", x, now, got)
	}
}

func (p *pair) tryDrop(x api.Prefix, now int64) bool {
	p.t.Helper()
	before, want := p.plain.all(), p.plain.drop(x, now)
	if got := p.box.Drop(x, now); got != want {
		p.t.Fatalf("Drop(%v, %d) with %v: %v", x, now, before, got)
	}
	p.look(x)
	return want
}

// all asks both for who is in it, and wants them to be these.
func (p *pair) all(now int64, want ...api.Prefix) {
	p.t.Helper()
	p.tryAll(now)
	if got := p.box.All(now); !slices.Equal(got, want) {
		p.t.Fatalf("All(%d): %v, not %v", now, got, want)
	}
}

func (p *pair) tryAll(now int64) {
	p.t.Helper()
	p.plain.let(api.Prefix{}, now)
	if got, want := p.box.All(now), p.plain.all(); !slices.Equal(got, want) {
		p.t.Fatalf("All(%d): %v, not %v", now, got, want)
	}
	p.check()
}

// look checks, and asks for x from now on.
func (p *pair) look(x api.Prefix) {
	p.t.Helper()
	if !slices.Contains(p.seen, x) {
		p.seen = append(p.seen, x)
	}
	p.check()
}

// check asks twice for everything that can be asked without letting anybody
// go, as to be asked so must change nothing.
func (p *pair) check() {
	p.t.Helper()
	want := p.plain.all()
	for range 2 {
		for _, now := range never {
			if got := p.box.All(now); !slices.Equal(got, want) {
				p.t.Fatalf("All(%d): %v, not %v", now, got, want)
			}
		}
		for _, x := range p.seen {
			g := p.plain.find(x)
			for _, now := range never {
				if got := p.box.In(x, now); got != (g != nil) {
					p.t.Fatalf("In(%v, %d): %v", x, now, got)
				}
			}
			p.stay(x, g)
		}
	}
}

// stay holds x's end, and what it may take, against what they ought to be.
func (p *pair) stay(x api.Prefix, g *guest) {
	p.t.Helper()
	s, there := p.box.stays.Get(x)
	if there != (g != nil) {
		p.t.Fatalf("%v is there: %v", x, there)
	}
	if g == nil {
		return
	}
	if s.end < 0 || uint64(s.end) != g.end {
		p.t.Fatalf("%v: the end is %d, not %d", x, s.end, g.end)
	}
	for _, now := range []int64{lowest, 0, g.moment, max(g.moment, s.end-1), highest} {
		if got, want := s.tokens.Level(now), p.plain.level(g, now); got != want {
			p.t.Fatalf("%v has %d at %d, not %d", x, got, now, want)
		}
	}
}

// full is a box into which as many were put at now as there is room for.
func full(t *testing.T, room int, term, now int64) *pair {
	t.Helper()
	p := newPair(t, room, term, parts, 10)
	for k := range room {
		p.put(who(k), now, api.OK)
	}
	return p
}
