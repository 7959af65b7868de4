package sketch

import (
	"math"
	"math/rand"
	"slices"
	"testing"

	"bailiff/api"
)

// The limits as the document writes them, so that a test doesn't take them
// from where the program does.
const (
	topSlots = 64
	topCount = int64(1) << 62
	lowest   = int64(math.MinInt64)
	highest  = int64(math.MaxInt64)
)

// Numbers that are counts, or just aren't, or are far from it.
var numbers = []int64{
	lowest, lowest + 1, -topCount, -5, -1, 0, 1, 2, 9, 10, 11, 1 << 32, 1<<61 - 1, 1 << 61,
	topCount - 10, topCount - 1, topCount, topCount + 1, highest - 1, highest,
}

// who is the n-th prefix.
func who(n int) api.Prefix {
	return api.Prefix{V6: n%2 == 1, Addr: [7]byte{byte(n >> 8), 1, 2, byte(n)}}
}

// slot is what the n-th prefix has.
func slot(n int, count, err int64) Slot { return Slot{Prefix: who(n), Count: count, Err: err} }

// asCount is n as a count.
func asCount(n int64) uint64 {
	switch {
	case n < 0:
		return 0
	case n > topCount:
		return uint64(topCount)
	}
	return uint64(n)
}

// sum is of two counts; without a sign they can't go round.
func sum(a, b uint64) uint64 { return min(a+b, uint64(topCount)) }

// plain is a plain second way: who has a slot as a list, what they have by
// name.
type plain struct {
	most  int
	line  []api.Prefix
	count map[api.Prefix]uint64
	err   map[api.Prefix]uint64
	total uint64
}

func (p *plain) reset() {
	p.line, p.total = nil, 0
	p.count, p.err = map[api.Prefix]uint64{}, map[api.Prefix]uint64{}
}

// leave takes the slot from the one who has least, and tells where it was.
func (p *plain) leave() (int, uint64) {
	order := slices.Clone(p.line)
	slices.SortStableFunc(order, func(a, b api.Prefix) int {
		if p.count[a] < p.count[b] {
			return -1
		}
		if p.count[a] > p.count[b] {
			return 1
		}
		return 0
	})
	out := order[0]
	had := p.count[out]
	delete(p.count, out)
	delete(p.err, out)
	return slices.Index(p.line, out), had
}

func (p *plain) add(x api.Prefix, n int64) {
	p.total = sum(p.total, asCount(n))
	if _, ok := p.count[x]; !ok {
		if len(p.line) < p.most {
			p.line = append(p.line, x)
		} else {
			k, had := p.leave()
			p.line[k], p.count[x], p.err[x] = x, had, had
		}
	}
	p.count[x] = sum(p.count[x], asCount(n))
}

func (p *plain) get(x api.Prefix) (Slot, bool) {
	n, ok := p.count[x]
	if !ok {
		return Slot{}, false
	}
	return Slot{Prefix: x, Count: int64(n), Err: int64(p.err[x])}, true
}

func (p *plain) slots() []Slot {
	var l []Slot
	for _, x := range p.line {
		y, _ := p.get(x)
		l = append(l, y)
	}
	return l
}

// pair is a sketch and a plain second one. Each step is done to both, and all
// that the sketch says of itself is held against the other behind it.
type pair struct {
	t      *testing.T
	sketch *Sketch
	plain  plain
	seen   []api.Prefix
}

func newPair(t *testing.T, slots int) *pair {
	t.Helper()
	s, e := New(slots)
	if s == nil || e != api.OK {
		t.Fatalf("New(%d): %v, %v", slots, s, e)
	}
	p := &pair{t: t, sketch: s, plain: plain{most: slots}, seen: []api.Prefix{{}, {V6: true}}}
	p.plain.reset()
	p.check()
	return p
}

func (p *pair) add(x api.Prefix, n int64) {
	p.t.Helper()
	before := p.plain.slots()
	p.plain.add(x, n)
	want, _ := p.plain.get(x)
	if got := p.sketch.Add(x, n); got != want {
		p.t.Fatalf("Add(%v, %d) with %v: %v, not %v", x, n, before, got, want)
	}
	if !slices.Contains(p.seen, x) {
		p.seen = append(p.seen, x)
	}
	p.check()
}

// many adds to one prefix after the other, from the first one on.
func (p *pair) many(l ...int64) {
	p.t.Helper()
	for k, n := range l {
		p.add(who(k), n)
	}
}

func (p *pair) reset() {
	p.t.Helper()
	p.sketch.Reset()
	p.plain.reset()
	p.check()
}

// is holds the slots against those that ought to be, written by hand.
func (p *pair) is(want ...Slot) {
	p.t.Helper()
	if got := p.sketch.Slots(); !slices.Equal(got, want) {
		p.t.Fatalf("slots: %v, not %v", got, want)
	}
}

// check asks for everything twice, as to be asked must change nothing.
func (p *pair) check() {
	p.t.Helper()
	for range 2 {
		if got, want := p.sketch.Slots(), p.plain.slots(); !slices.Equal(got, want) {
			p.t.Fatalf("slots: %v, not %v", got, want)
		}
		if got := p.sketch.Total(); got != int64(p.plain.total) {
			p.t.Fatalf("total: %d, not %d", got, p.plain.total)
		}
		for _, x := range p.seen {
			want, there := p.plain.get(x)
			if got, ok := p.sketch.Get(x); got != want || ok != there {
				p.t.Fatalf("Get(%v): %v, %v; not %v, %v", x, got, ok, want, there)
			}
		}
	}
}

func TestNew(t *testing.T) {
	for _, n := range []int{math.MinInt, math.MinInt + 1, math.MinInt32, -topSlots, -1, 0,
		topSlots + 1, 1 << 16, 1<<32 + 1, 1<<32 + topSlots, math.MaxInt32, math.MaxInt} {
		if s, e := New(n); s != nil || e != api.ErrArg {
			t.Errorf("New(%d): %v, %v", n, s, e)
		}
	}
	for n := 1; n <= topSlots; n++ {
		s, e := New(n)
		if s == nil || e != api.OK {
			t.Fatalf("New(%d): %v, %v", n, s, e)
		}
		if l := s.Slots(); len(l) != 0 || s.Total() != 0 {
			t.Errorf("New(%d): %v, %d", n, l, s.Total())
		}
		for _, x := range []api.Prefix{{}, {V6: true}, who(1)} {
			if y, ok := s.Get(x); ok || y != (Slot{}) {
				t.Errorf("New(%d): Get(%v): %v, %v", n, x, y, ok)
			}
		}
	}
}

func TestAsManySlotsAsMayBe(t *testing.T) {
	for n := 1; n <= topSlots; n++ {
		s, _ := New(n)
		for k := range 3 * n {
			s.Add(who(k), 1)
			if l := s.Slots(); len(l) != min(k+1, n) {
				t.Fatalf("New(%d): %d slots behind %d prefixes", n, len(l), k+1)
			}
		}
	}
}

func TestAddAsInTheChapter(t *testing.T) {
	s, _ := New(1)
	if x := s.Add(who(0), 5); x != slot(0, 5, 0) {
		t.Error(x)
	}
	if x := s.Add(who(1), 1); x != slot(1, 6, 5) {
		t.Error(x)
	}
	if l := s.Slots(); !slices.Equal(l, []Slot{slot(1, 6, 5)}) {
		t.Error(l)
	}
}

func TestAddOfEachNumber(t *testing.T) {
	for _, c := range []struct{ n, first, more, other int64 }{
		{lowest, 0, 10, 10}, {lowest + 1, 0, 10, 10}, {-topCount, 0, 10, 10}, {-1, 0, 10, 10},
		{0, 0, 10, 10}, {1, 1, 11, 11}, {2, 2, 12, 12},
		{topCount - 11, topCount - 11, topCount - 1, topCount - 1},
		{topCount - 10, topCount - 10, topCount, topCount},
		{topCount - 9, topCount - 9, topCount, topCount},
		{topCount - 1, topCount - 1, topCount, topCount}, {topCount, topCount, topCount, topCount},
		{topCount + 1, topCount, topCount, topCount}, {highest, topCount, topCount, topCount},
	} {
		s, _ := New(1)
		if x := s.Add(who(7), c.n); x != slot(7, c.first, 0) || s.Total() != c.first {
			t.Errorf("Add(%d) to none: %v, %d", c.n, x, s.Total())
		}
		s, _ = New(1)
		s.Add(who(7), 10)
		if x := s.Add(who(7), c.n); x != slot(7, c.more, 0) || s.Total() != c.more {
			t.Errorf("Add(%d) to 10: %v, %d", c.n, x, s.Total())
		}
		s, _ = New(1)
		s.Add(who(7), 10)
		if x := s.Add(who(8), c.n); x != slot(8, c.other, 10) || s.Total() != c.other {
			t.Errorf("Add(%d) instead of 10: %v, %d", c.n, x, s.Total())
		}
	}
}

// Who has a slot keeps it, wherever it is, whether there is room or not; what
// the others have stays as it is.
func TestAddToOneThatHasASlot(t *testing.T) {
	had := []int64{20, 10, 30, 10, 20}
	for _, most := range []int{5, 6, topSlots} {
		for k := range had {
			for _, n := range []int64{-1, 0, 1, 100, topCount - 30} {
				p := newPair(t, most)
				p.many(had...)
				p.add(who(k), n)
				for j, x := range p.sketch.Slots() {
					want := slot(j, had[j], 0)
					if j == k {
						want.Count += max(n, 0)
					}
					if x != want {
						t.Fatalf("Add(%d) to the one at %d: %v at %d, not %v", n, k, x, j, want)
					}
				}
			}
		}
	}
	for k := range topSlots {
		p := newPair(t, topSlots)
		for j := range topSlots {
			p.sketch.Add(who(j), int64(j+1))
			p.plain.add(who(j), int64(j+1))
		}
		p.add(who(k), 1000)
		if x := p.sketch.Slots()[k]; x != slot(k, int64(k)+1001, 0) {
			t.Fatalf("the one at %d: %v", k, x)
		}
	}
}

// How much may be wrong stays, once it is known.
func TestAddLeavesTheErr(t *testing.T) {
	p := newPair(t, 2)
	p.many(5, 7)
	p.add(who(2), 1)
	p.is(slot(2, 6, 5), slot(1, 7, 0))
	p.add(who(2), 10)
	p.is(slot(2, 16, 5), slot(1, 7, 0))
	p.add(who(2), -1)
	p.is(slot(2, 16, 5), slot(1, 7, 0))
	p.add(who(1), 20)
	p.is(slot(2, 16, 5), slot(1, 27, 0))
	p.add(who(2), highest)
	p.is(slot(2, topCount, 5), slot(1, 27, 0))
}

// While there are fewer slots than may be, a new one is the last one, however
// little the others have.
func TestAddWhileThereIsRoom(t *testing.T) {
	p := newPair(t, 4)
	p.add(who(3), 9)
	p.is(slot(3, 9, 0))
	p.add(who(1), 0)
	p.is(slot(3, 9, 0), slot(1, 0, 0))
	p.add(who(2), 4)
	p.is(slot(3, 9, 0), slot(1, 0, 0), slot(2, 4, 0))
	p.add(who(0), lowest)
	p.is(slot(3, 9, 0), slot(1, 0, 0), slot(2, 4, 0), slot(0, 0, 0))
	p.add(who(4), 1)
	p.is(slot(3, 9, 0), slot(4, 1, 0), slot(2, 4, 0), slot(0, 0, 0))
}

func TestAddTakesTheLeast(t *testing.T) {
	for _, c := range []struct {
		counts []int64
		at     int
	}{
		{[]int64{1}, 0}, {[]int64{0}, 0}, {[]int64{topCount}, 0},
		{[]int64{1, 2, 3}, 0}, {[]int64{2, 1, 3}, 1}, {[]int64{3, 2, 1}, 2},
		{[]int64{0, 2, 3}, 0}, {[]int64{2, 0, 3}, 1}, {[]int64{3, 2, 0}, 2},
		{[]int64{1, 1, 3}, 0}, {[]int64{1, 3, 1}, 0}, {[]int64{3, 1, 1}, 1}, {[]int64{1, 1, 1}, 0},
		{[]int64{5, 4, 4, 5, 4}, 1}, {[]int64{5, 5, 5, 5, 4}, 4}, {[]int64{5, 5, 4, 6, 4}, 2},
		{[]int64{0, 0, 0, 0}, 0}, {[]int64{1, 0, 0, 1}, 1},
		{[]int64{topCount, topCount - 1, topCount}, 1}, {[]int64{topCount, topCount, topCount}, 0},
		{[]int64{1 << 32, 1<<32 + 1, 1<<33 + 0}, 0}, {[]int64{1<<32 + 1, 1 << 33, 1 << 32}, 2},
	} {
		for _, n := range []int64{-1, 0, 1, 100} {
			p := newPair(t, len(c.counts))
			p.many(c.counts...)
			p.add(who(99), n)
			for k, x := range p.sketch.Slots() {
				had := c.counts[k]
				want := slot(k, had, 0)
				if k == c.at {
					want = slot(99, min(had+max(n, 0), topCount), had)
				}
				if x != want {
					t.Fatalf("Add(%d) with %v: %v at %d, not %v", n, c.counts, x, k, want)
				}
			}
		}
	}
}

// Of 64 slots each one in turn is least.
func TestAddTakesTheLeastOfAsManyAsMayBe(t *testing.T) {
	for k := range topSlots {
		s, _ := New(topSlots)
		for j := range topSlots {
			if j == k {
				s.Add(who(j), 3)
			} else {
				s.Add(who(j), int64(10+j))
			}
		}
		if x := s.Add(who(1000), 2); x != slot(1000, 5, 3) {
			t.Fatal(k, x)
		}
		for j, x := range s.Slots() {
			if j == k && x != slot(1000, 5, 3) || j != k && x != slot(j, int64(10+j), 0) {
				t.Fatal(k, j, x)
			}
		}
	}
}

// What is least is asked of all that a slot has, not of what is sure of it.
func TestTheLeastIsAskedOfTheCount(t *testing.T) {
	p := newPair(t, 2)
	p.many(5, 6)
	p.add(who(2), 3) // 8, of which 5 may be wrong
	p.add(who(3), 1)
	p.is(slot(2, 8, 5), slot(3, 7, 6))
	p.add(who(4), 2)
	p.is(slot(2, 8, 5), slot(4, 9, 7))
	p.add(who(5), 0)
	p.is(slot(5, 8, 8), slot(4, 9, 7))
}

// Who comes back has no more than who is new.
func TestWhoWasReplacedIsAsNew(t *testing.T) {
	p := newPair(t, 1)
	p.add(who(0), 5)
	p.add(who(1), 1)
	p.add(who(0), 1)
	p.is(slot(0, 7, 6))
	p.add(who(0), 0)
	p.is(slot(0, 7, 6))
}

func TestWhatIsToldIsTheSlotAsItIsThen(t *testing.T) {
	s, _ := New(2)
	first := s.Add(who(0), 5)
	second := s.Add(who(0), 2)
	s.Add(who(1), 9)
	third := s.Add(who(2), 1)
	s.Add(who(2), 100)
	got, _ := s.Get(who(2))
	s.Add(who(2), 1)
	if first != slot(0, 5, 0) || second != slot(0, 7, 0) || third != slot(2, 8, 7) || got != slot(2, 108, 7) {
		t.Error(first, second, third, got)
	}
}

// near is prefixes each two of which differ in one place or two.
func near() []api.Prefix {
	base := api.Prefix{Addr: [7]byte{1, 2, 3, 4, 5, 6, 7}}
	l := []api.Prefix{{}, {V6: true}, base}
	six := base
	six.V6 = true
	l = append(l, six)
	for k := range base.Addr {
		for _, bit := range []byte{1, 0x80} {
			x := base
			x.Addr[k] ^= bit
			l = append(l, x)
			x.V6 = true
			l = append(l, x)
		}
	}
	return l
}

func TestPrefixesThatDifferALittle(t *testing.T) {
	l := near()
	p := newPair(t, len(l))
	for k, x := range l {
		if _, ok := p.sketch.Get(x); ok {
			t.Fatalf("Get(%v) ahead of Add", x)
		}
		p.add(x, int64(k+1))
		if got := p.sketch.Slots(); len(got) != k+1 {
			t.Fatalf("%v is one of %v", x, got)
		}
	}
	for k, x := range l {
		if got, ok := p.sketch.Get(x); !ok || got != (Slot{Prefix: x, Count: int64(k + 1)}) {
			t.Fatalf("Get(%v): %v, %v", x, got, ok)
		}
	}
	for _, x := range l {
		for _, y := range l {
			if x == y {
				continue
			}
			s, _ := New(1)
			s.Add(x, 3)
			if got, ok := s.Get(y); ok || got != (Slot{}) {
				t.Fatalf("Get(%v) with %v: %v", y, x, got)
			}
			if got := s.Add(y, 4); got != (Slot{Prefix: y, Count: 7, Err: 3}) {
				t.Fatalf("Add(%v) with %v: %v", y, x, got)
			}
		}
	}
}

func TestCountsThatComeToMaxCount(t *testing.T) {
	p := newPair(t, 2)
	p.many(topCount-3, topCount-1)
	p.add(who(0), 2)
	p.is(slot(0, topCount-1, 0), slot(1, topCount-1, 0))
	p.add(who(0), 1)
	p.is(slot(0, topCount, 0), slot(1, topCount-1, 0))
	p.add(who(0), 1)
	p.add(who(0), topCount)
	p.add(who(0), highest)
	p.is(slot(0, topCount, 0), slot(1, topCount-1, 0))
	p.add(who(2), 0)
	p.is(slot(0, topCount, 0), slot(2, topCount-1, topCount-1))
	p.add(who(3), 5)
	p.is(slot(0, topCount, 0), slot(3, topCount, topCount-1))
	p.add(who(4), 5)
	p.is(slot(4, topCount, topCount), slot(3, topCount, topCount-1))
	p.add(who(5), highest)
	p.is(slot(5, topCount, topCount), slot(3, topCount, topCount-1))
	p.add(who(3), highest)
	p.is(slot(5, topCount, topCount), slot(3, topCount, topCount-1))
	p.reset()
	p.add(who(3), 1)
	p.is(slot(3, 1, 0))
}

func TestGet(t *testing.T) {
	p := newPair(t, 3)
	p.many(5, 6, 7)
	for k, n := range []int64{5, 6, 7} {
		if x, ok := p.sketch.Get(who(k)); !ok || x != slot(k, n, 0) {
			t.Error(k, x, ok)
		}
	}
	p.add(who(9), 2)
	if x, ok := p.sketch.Get(who(9)); !ok || x != slot(9, 7, 5) {
		t.Error(x, ok)
	}
	for _, x := range []api.Prefix{who(0), who(3), {}, {V6: true}} {
		if y, ok := p.sketch.Get(x); ok || y != (Slot{}) {
			t.Error(x, y, ok)
		}
	}
	// A slot whose count is 0 is one, and so is one of the prefix that is zero.
	p = newPair(t, 2)
	p.add(api.Prefix{}, 0)
	if x, ok := p.sketch.Get(api.Prefix{}); !ok || x != (Slot{}) {
		t.Error(x, ok)
	}
	p.is(Slot{})
}

func TestGetChangesNothing(t *testing.T) {
	p := newPair(t, 2)
	for k := range 4 {
		p.sketch.Get(who(k))
		p.check()
	}
	p.is()
	p.many(5, 5)
	for range 3 {
		for k := range 4 {
			p.sketch.Get(who(k))
		}
	}
	p.is(slot(0, 5, 0), slot(1, 5, 0))
	p.add(who(2), 1)
	p.is(slot(2, 6, 5), slot(1, 5, 0))
}

// spoil changes all of a list, its spare room too.
func spoil(l []Slot) {
	l = l[:cap(l)]
	for k := range l {
		l[k] = slot(500+k, -7, 99)
	}
}

func TestSlotsAreNewMemory(t *testing.T) {
	for _, most := range []int{1, 2, 3, 7, topSlots} {
		for have := range most + 1 {
			p := newPair(t, most)
			for k := range have {
				p.add(who(k), int64(k+1))
			}
			want := p.plain.slots()
			one, two := p.sketch.Slots(), p.sketch.Slots()
			spoil(one)
			if !slices.Equal(two, want) {
				t.Fatalf("of %d slots: %v, not %v", have, two, want)
			}
			p.check()
			spoil(append(one, slot(77, 77, 77)))
			spoil(append(one[:0], slot(77, 77, 77)))
			p.check()
			// Those of later steps aren't in what was told, and the other way round.
			p.add(who(0), 3)
			p.add(who(99), 5)
			spoil(one)
			p.check()
			p.reset()
			p.add(who(5), 2)
			spoil(one)
			p.check()
			if !slices.Equal(two, want) {
				t.Fatalf("of %d slots, later: %v, not %v", have, two, want)
			}
		}
	}
}

func TestTheSpareRoomOfWhatIsToldStays(t *testing.T) {
	p := newPair(t, 8)
	p.many(1, 2, 3)
	l := p.sketch.Slots()
	spare := slices.Clone(l[:cap(l)])
	for k := range 20 {
		p.add(who(k), 9)
		if !slices.Equal(l[:cap(l)], spare) {
			t.Fatal(k, l[:cap(l)])
		}
	}
}

func TestTotal(t *testing.T) {
	s, _ := New(2)
	if s.Total() != 0 {
		t.Error(s.Total())
	}
	for k, c := range []struct {
		who  int
		n    int64
		want int64
	}{
		{0, 5, 5}, {0, 5, 10}, {1, 1, 11}, {2, 3, 14}, {3, 4, 18}, {0, -9, 18}, {0, 0, 18}, {1, lowest, 18},
		{4, 1 << 61, 1<<61 + 18}, {5, 1<<61 - 19, topCount - 1}, {5, 1, topCount}, {5, 1, topCount},
		{6, topCount, topCount}, {7, highest, topCount}, {7, -1, topCount},
	} {
		s.Add(who(c.who), c.n)
		if got := s.Total(); got != c.want {
			t.Errorf("step %d: %d, not %d", k, got, c.want)
		}
	}
	s.Reset()
	if s.Total() != 0 {
		t.Error(s.Total())
	}
	s.Add(who(0), 4)
	if s.Total() != 4 {
		t.Error(s.Total())
	}
}

func TestReset(t *testing.T) {
	for _, most := range []int{1, 2, 5, topSlots} {
		p := newPair(t, most)
		p.reset()
		for round := range 5 {
			for k := range most + round {
				p.add(who(k+round), int64(k%3+1))
			}
			before := p.seen
			p.reset()
			p.is()
			p.reset()
			for _, x := range before {
				if y, ok := p.sketch.Get(x); ok || y != (Slot{}) {
					t.Fatalf("Get(%v) behind Reset: %v, %v", x, y, ok)
				}
			}
			// Whoever was there is as new as any other.
			p.add(who(round), 2)
			p.is(slot(round, 2, 0))
			for k := range most {
				p.add(who(100+k), 0)
			}
			p.reset()
		}
	}
}

// The same steps are answered the same, by a new one and by one behind Reset.
func TestBehindResetAllIsAsInANewOne(t *testing.T) {
	for seed := range int64(40) {
		most := 1 + rand.New(rand.NewSource(seed)).Intn(6)
		used, _ := New(most)
		for round := range int64(4) {
			fresh, _ := New(most)
			draw := rand.New(rand.NewSource(seed + 1000*round))
			for range 30 {
				x, n := who(draw.Intn(2*most+1)), draw.Int63n(9)-1
				if a, b := used.Add(x, n), fresh.Add(x, n); a != b {
					t.Fatalf("Add(%v, %d): %v, not %v", x, n, a, b)
				}
			}
			if a, b := used.Slots(), fresh.Slots(); !slices.Equal(a, b) || used.Total() != fresh.Total() {
				t.Fatalf("%v, not %v", a, b)
			}
			used.Reset()
		}
	}
}

// silent asks a sketch everything, and ends the test if it says anything.
func silent(t *testing.T, s *Sketch) {
	t.Helper()
	for range 2 {
		for _, x := range append(near(), who(0)) {
			for _, n := range numbers {
				if y := s.Add(x, n); y != (Slot{}) {
					t.Fatalf("Add(%v, %d): %v", x, n, y)
				}
			}
			if y, ok := s.Get(x); ok || y != (Slot{}) {
				t.Fatalf("Get(%v): %v, %v", x, y, ok)
			}
		}
		if l := s.Slots(); len(l) != 0 || s.Total() != 0 {
			t.Fatal(l, s.Total())
		}
		s.Reset()
	}
}

func TestOfNone(t *testing.T) { silent(t, nil) }

// Of those that are made by hand nothing is promised but that no call panics.
func TestMadeByHand(t *testing.T) {
	for _, s := range []*Sketch{{}, new(Sketch), {most: -1}, {most: 3}, {most: math.MinInt}} {
		for _, n := range numbers {
			for k := range 5 {
				s.Add(who(k), n)
				s.Get(who(k))
				s.Slots()
				s.Total()
			}
			s.Reset()
		}
	}
}

func TestTwoDontDisturbEachOther(t *testing.T) {
	a, b := newPair(t, 2), newPair(t, 3)
	a.many(1, 2)
	b.check()
	b.many(7, 8, 9, 10)
	a.check()
	a.reset()
	b.check()
	b.add(who(0), 1)
	a.check()
}

// Every line of steps that is so short, of each small sketch.
func TestEveryShortLineOfSteps(t *testing.T) {
	type step struct {
		who int
		n   int64
	}
	var steps []step
	for who := range 4 {
		for _, n := range []int64{0, 1, 2} {
			steps = append(steps, step{who, n})
		}
	}
	steps = append(steps, step{who: -1})
	const long = 4
	for most := 1; most <= 3; most++ {
		for line := range len(steps) * len(steps) * len(steps) * len(steps) {
			p := newPair(t, most)
			for range long {
				s := steps[line%len(steps)]
				line /= len(steps)
				if s.who < 0 {
					p.reset()
				} else {
					p.add(who(s.who), s.n)
				}
			}
		}
	}
}

// drawnNumber is mostly small, so that counts are often alike.
func drawnNumber(draw *rand.Rand) int64 {
	switch draw.Intn(12) {
	case 0:
		return numbers[draw.Intn(10)]
	case 1:
		return draw.Int63n(1 << 40)
	case 2:
		if draw.Intn(40) == 0 {
			return numbers[draw.Intn(len(numbers))]
		}
	}
	return draw.Int63n(6)
}

func TestDrawnSteps(t *testing.T) {
	for seed := range int64(150) {
		draw := rand.New(rand.NewSource(seed))
		most := 1 + draw.Intn(8)
		if seed%10 == 0 {
			most = topSlots - draw.Intn(2)
		}
		others := 1 + draw.Intn(2*most+3)
		p := newPair(t, most)
		for range 120 {
			if draw.Intn(60) == 0 {
				p.reset()
			}
			p.add(who(draw.Intn(others)), drawnNumber(draw))
		}
	}
}

// truth is what each prefix really has, beside a sketch that only guesses it.
type truth struct {
	t      *testing.T
	most   int
	sketch *Sketch
	sums   map[api.Prefix]int64
	total  int64
}

func newTruth(t *testing.T, most int) *truth {
	t.Helper()
	s, e := New(most)
	if e != api.OK {
		t.Fatal(most, e)
	}
	return &truth{t: t, most: most, sketch: s, sums: map[api.Prefix]int64{}}
}

// add leaves out what would bring the total to MaxCount.
func (x *truth) add(p api.Prefix, n int64) {
	x.t.Helper()
	counts := int64(asCount(n))
	if counts >= topCount-x.total {
		return
	}
	x.sketch.Add(p, n)
	x.sums[p] += counts
	x.total += counts
	x.hold()
}

func (x *truth) reset() {
	x.sketch.Reset()
	x.sums, x.total = map[api.Prefix]int64{}, 0
}

// hold asks for all that is known of each prefix.
func (x *truth) hold() {
	x.t.Helper()
	if got := x.sketch.Total(); got != x.total {
		x.t.Fatalf("total: %d, not %d", got, x.total)
	}
	l := x.sketch.Slots()
	if len(l) > x.most {
		x.t.Fatalf("%d slots of %d", len(l), x.most)
	}
	least, there := highest, map[api.Prefix]bool{}
	for _, s := range l {
		least = min(least, s.Count)
		if there[s.Prefix] {
			x.t.Fatalf("twice: %v", s.Prefix)
		}
		there[s.Prefix] = true
		if sum := x.sums[s.Prefix]; sum < s.Count-s.Err || sum > s.Count {
			x.t.Fatalf("%v, but the sum is %d", s, sum)
		}
		if s.Err < 0 || s.Err > x.total/int64(x.most) {
			x.t.Fatalf("%v, but the total is %d by %d", s, x.total, x.most)
		}
	}
	for p, sum := range x.sums {
		if !there[p] && sum > least {
			x.t.Fatalf("%v has no slot, but %d; the least count is %d", p, sum, least)
		}
	}
}

// ways is how prefixes and numbers are drawn.
var ways = []struct {
	name string
	draw func(draw *rand.Rand, most, step int) (api.Prefix, int64)
}{
	{"all alike", func(draw *rand.Rand, most, step int) (api.Prefix, int64) {
		return who(draw.Intn(3*most + 1)), 1
	}},
	{"in turn", func(draw *rand.Rand, most, step int) (api.Prefix, int64) {
		return who(step % (most + 1)), 5
	}},
	{"never again", func(draw *rand.Rand, most, step int) (api.Prefix, int64) {
		return who(step), draw.Int63n(100)
	}},
	{"few talk much", func(draw *rand.Rand, most, step int) (api.Prefix, int64) {
		if draw.Intn(2) == 0 {
			return who(draw.Intn(most/2 + 1)), 1500
		}
		return who(draw.Intn(1000)), draw.Int63n(60)
	}},
	{"wrong ones too", func(draw *rand.Rand, most, step int) (api.Prefix, int64) {
		return who(draw.Intn(2*most + 1)), draw.Int63n(20) - 10
	}},
	{"ever more", func(draw *rand.Rand, most, step int) (api.Prefix, int64) {
		return who(draw.Intn(2*most + 1)), 1 << min(step/4, 61)
	}},
	{"ever less", func(draw *rand.Rand, most, step int) (api.Prefix, int64) {
		return who(draw.Intn(2*most + 1)), 1 << max(60-step/4, 0)
	}},
	{"nearly all", func(draw *rand.Rand, most, step int) (api.Prefix, int64) {
		return who(draw.Intn(most + 2)), draw.Int63n(topCount / 50)
	}},
	{"near each other", func(draw *rand.Rand, most, step int) (api.Prefix, int64) {
		l := near()
		return l[draw.Intn(len(l))], draw.Int63n(9)
	}},
}

func TestWhatIsKnownOfEachPrefix(t *testing.T) {
	for _, way := range ways {
		t.Run(way.name, func(t *testing.T) {
			for _, most := range []int{1, 2, 3, 4, 5, 7, 8, 16, 33, 63, 64} {
				for seed := range int64(6) {
					draw := rand.New(rand.NewSource(seed))
					x := newTruth(t, most)
					x.hold()
					for round := range 2 {
						for step := range 5*most + 100*round {
							x.add(way.draw(draw, most, step))
						}
						x.reset()
						x.hold()
					}
				}
			}
		})
	}
}

// To the last number that is below MaxCount.
func TestWhatIsKnownJustBelowMaxCount(t *testing.T) {
	for _, most := range []int{1, 2, 3, 63, 64} {
		for _, first := range []int64{0, 1, 1 << 61, topCount/2 + 1, topCount - 2} {
			x := newTruth(t, most)
			x.add(who(0), first)
			for k := range most {
				x.add(who(k+1), 0)
			}
			x.add(who(most+2), topCount-1-x.total)
			if x.total != topCount-1 {
				t.Fatal(x.total)
			}
			x.add(who(1), -1)
			x.add(who(most+9), 0)
		}
	}
}

// The bounds aren't only held but reached.
func TestTheBoundsAreReached(t *testing.T) {
	for _, most := range []int{1, 2, 5, topSlots} {
		x := newTruth(t, most)
		for k := range most {
			x.add(who(k), 10)
		}
		x.add(who(most), 0)
		want := []Slot{slot(most, 10, 10)}
		for k := 1; k < most; k++ {
			want = append(want, slot(k, 10, 0))
		}
		if l := x.sketch.Slots(); !slices.Equal(l, want) || l[0].Err != x.total/int64(most) {
			t.Errorf("of %d slots: %v", most, l)
		}
		x.hold()
	}
}
