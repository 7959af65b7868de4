package slab

import (
	"maps"
	"math"
	"math/rand"
	"slices"
	"testing"

	"bailiff/api"
)

// pair is a slab of numbers, and what each of its taken places ought to
// have. Each step is done to both, and all that the slab says of itself is
// held against the other behind it.
type pair struct {
	t      *testing.T
	slab   *Slab[int]
	places int
	want   map[int]int
	next   int
}

func newPair(t *testing.T, places int) *pair {
	t.Helper()
	return &pair{t: t, slab: made[int](t, places), places: places, want: map[int]int{}, next: 1}
}

// made is a slab that New must not refuse.
func made[T any](t *testing.T, places int) *Slab[T] {
	t.Helper()
	s, e := New[T](places)
	if s == nil || e != api.OK {
		t.Fatalf("New(%d): %v, %v", places, s, e)
	}
	return s
}

// fresh is a number that the slab never saw, and is never 0.
func (p *pair) fresh() int {
	p.next++
	return p.next - 1
}

func (p *pair) take() {
	p.t.Helper()
	x := p.fresh()
	i, ok := p.slab.Take(x)
	fits := len(p.want) < p.places
	if ok != fits || !ok && i != 0 {
		p.t.Fatalf("Take(%d) with %v of %d places: %d, %v", x, p.want, p.places, i, ok)
	}
	if ok {
		if _, is := p.want[i]; is || i < 0 || i >= p.places {
			p.t.Fatalf("Take(%d) with %v of %d places: %d", x, p.want, p.places, i)
		}
		p.want[i] = x
	}
	p.check()
}

func (p *pair) give(i int) {
	p.t.Helper()
	wantX, wantOK := p.want[i]
	if x, ok := p.slab.Give(i); x != wantX || ok != wantOK {
		p.t.Fatalf("Give(%d) with %v: %d, %v", i, p.want, x, ok)
	}
	delete(p.want, i)
	p.check()
}

func (p *pair) set(i int) {
	p.t.Helper()
	x := p.fresh()
	_, want := p.want[i]
	if ok := p.slab.Set(i, x); ok != want {
		p.t.Fatalf("Set(%d, %d) with %v: %v", i, x, p.want, ok)
	}
	if want {
		p.want[i] = x
	}
	p.check()
}

func (p *pair) get(i int) {
	p.t.Helper()
	wantX, wantOK := p.want[i]
	if x, ok := p.slab.Get(i); x != wantX || ok != wantOK {
		p.t.Fatalf("Get(%d) with %v: %d, %v", i, p.want, x, ok)
	}
}

// check looks at all the places, and just beyond both ends of them.
func (p *pair) check() {
	p.t.Helper()
	if free, places := p.slab.Free(), p.slab.Places(); free != p.places-len(p.want) || places != p.places {
		p.t.Fatalf("%v of %d places: Free %d, Places %d", p.want, p.places, free, places)
	}
	for i := -1; i <= p.places+1; i++ {
		p.get(i)
	}
}

// fill takes till no place is free.
func (p *pair) fill() {
	p.t.Helper()
	for len(p.want) < p.places {
		p.take()
	}
}

// clear gives all back, the lowest place first.
func (p *pair) clear() {
	p.t.Helper()
	for _, i := range slices.Sorted(maps.Keys(p.want)) {
		p.give(i)
	}
}

// outside are numbers of which a slab of n places has none.
func outside(n int) []int {
	return []int{n, n + 1, n + api.MaxRoom, 1 << 32, 1 << 40, math.MaxInt, -1, -2, -n, -n - 1, -api.MaxRoom, -1 << 32, -1 << 40, math.MinInt}
}

func TestNewRefusesPlacesOutOfBounds(t *testing.T) {
	for _, places := range []int{0, -1, -2, -api.MaxRoom, math.MinInt, api.MaxRoom + 1, 2 * api.MaxRoom, 1 << 32, math.MaxInt} {
		if s, e := New[int](places); s != nil || e != api.ErrArg {
			t.Errorf("New(%d): %v, %v", places, s, e)
		}
		if s, e := New[[]string](places); s != nil || e != api.ErrArg {
			t.Errorf("New(%d) of lists: %v, %v", places, s, e)
		}
	}
}

func TestNewHasAllPlacesFree(t *testing.T) {
	for _, places := range []int{1, 2, 3, 100} {
		p := newPair(t, places)
		p.check()
		for _, i := range append(outside(places), 0, places-1) {
			p.get(i)
			p.set(i)
			p.give(i)
		}
		p.fill()
		p.take()
	}
}

func TestTheChaptersExample(t *testing.T) {
	s := made[int](t, 1)
	if i, ok := s.Take(7); i != 0 || !ok {
		t.Errorf("Take: %d, %v", i, ok)
	}
	if i, ok := s.Take(8); i != 0 || ok {
		t.Errorf("Take of none: %d, %v", i, ok)
	}
	if x, ok := s.Get(0); x != 7 || !ok {
		t.Errorf("Get(0): %d, %v", x, ok)
	}
}

func TestOnePlace(t *testing.T) {
	p := newPair(t, 1)
	for range 5 {
		p.take()
		p.take()
		p.set(0)
		p.set(1)
		p.give(1)
		p.give(-1)
		p.give(0)
		p.give(0)
		p.set(0)
		p.get(0)
	}
}

func TestTheMostPlaces(t *testing.T) {
	s := made[int](t, api.MaxRoom)
	for round := range 3 {
		seen := map[int]int{}
		for n := range api.MaxRoom {
			i, ok := s.Take(n + 1)
			if _, is := seen[i]; is || !ok || i < 0 || i >= api.MaxRoom || s.Free() != api.MaxRoom-1-n {
				t.Fatalf("Take %d: %d, %v, Free %d", n, i, ok, s.Free())
			}
			seen[i] = n + 1
		}
		if i, ok := s.Take(-7); i != 0 || ok || s.Free() != 0 || s.Places() != api.MaxRoom {
			t.Fatalf("full: %d, %v, Free %d, Places %d", i, ok, s.Free(), s.Places())
		}
		for _, i := range outside(api.MaxRoom) {
			if x, ok := s.Give(i); x != 0 || ok || s.Set(i, 1) {
				t.Fatalf("Give(%d): %d, %v", i, x, ok)
			}
		}
		for n := range api.MaxRoom {
			i := n
			if round == 1 {
				i = api.MaxRoom - 1 - n
			}
			if x, ok := s.Get(i); x != seen[i] || !ok {
				t.Fatalf("Get(%d): %d, %v, not %d", i, x, ok, seen[i])
			}
			if x, ok := s.Give(i); x != seen[i] || !ok || s.Free() != n+1 {
				t.Fatalf("Give(%d): %d, %v, not %d, Free %d", i, x, ok, seen[i], s.Free())
			}
		}
	}
}

func TestNoneIsFreeTillOneIsGivenBack(t *testing.T) {
	for places := 1; places <= 6; places++ {
		for i := range places {
			p := newPair(t, places)
			p.fill()
			p.take()
			p.give(i)
			p.take() // it has to be place i: no other one is free
			p.take()
			p.get(i)
		}
	}
}

// Whatever two places are given back, in whatever order: both are taken
// again, and no other one.
func TestTwoGivenBack(t *testing.T) {
	for places := 2; places <= 6; places++ {
		for i := range places {
			for j := range places {
				p := newPair(t, places)
				p.fill()
				p.give(i)
				p.give(j)
				p.give(i)
				p.fill()
				p.take()
				p.clear()
				p.fill()
			}
		}
	}
}

func TestTheFirstPlaceAndTheLastOne(t *testing.T) {
	for _, places := range []int{2, 3, 50} {
		p := newPair(t, places)
		p.fill()
		for _, i := range []int{0, places - 1} {
			p.set(i)
			p.get(i)
			p.give(i)
			p.set(i)
			p.give(i)
			p.get(i)
			p.take()
			p.set(i)
		}
		p.clear()
		p.check()
	}
}

func TestWhatIsRefusedChangesNothing(t *testing.T) {
	for _, n := range []int{0, 1, 3, 4} {
		p := newPair(t, 4)
		p.fill()
		p.clear()
		for range n {
			p.take()
		}
		for range 3 {
			for _, i := range outside(4) {
				p.give(i)
				p.set(i)
				p.get(i)
			}
			for i := range 4 {
				if _, ok := p.want[i]; !ok {
					p.give(i)
					p.set(i)
					p.get(i)
				}
			}
		}
		p.fill()
		for range 3 {
			p.take()
		}
		p.clear()
	}
}

func TestEverySequenceOfFewSteps(t *testing.T) {
	steps := []func(*pair){
		(*pair).take,
		func(p *pair) { p.give(0) },
		func(p *pair) { p.give(1) },
		func(p *pair) { p.give(2) },
		func(p *pair) { p.set(1) },
		func(p *pair) { p.set(p.places - 1) },
	}
	const depth = 6
	all := 1
	for range depth {
		all *= len(steps)
	}
	for places := 1; places <= 3; places++ {
		for s := range all {
			p := newPair(t, places)
			for range depth {
				steps[s%len(steps)](p)
				s /= len(steps)
			}
		}
	}
}

func TestLongMixedRun(t *testing.T) {
	for _, places := range []int{1, 2, 7, 64} {
		draw := rand.New(rand.NewSource(int64(places)))
		p := newPair(t, places)
		for range 5000 {
			i := draw.Intn(places+2) - 1
			switch draw.Intn(5) {
			case 0, 1:
				p.take()
			case 2, 3:
				p.give(i)
			case 4:
				p.set(i)
			}
		}
	}
}

func TestLookingChangesNothing(t *testing.T) {
	p := newPair(t, 3)
	p.take()
	p.take()
	for range 10 {
		p.check()
	}
	p.take()
	p.take()
	p.clear()
}

func TestTheSameThingInSeveralPlaces(t *testing.T) {
	s := made[int](t, 3)
	a, _ := s.Take(5)
	b, _ := s.Take(5)
	if a == b || s.Free() != 1 {
		t.Fatalf("%d, %d, Free %d", a, b, s.Free())
	}
	if !s.Set(a, 6) {
		t.Error("Set")
	}
	if x, ok := s.Give(b); x != 5 || !ok {
		t.Errorf("%d, %v", x, ok)
	}
	if x, ok := s.Get(a); x != 6 || !ok {
		t.Errorf("%d, %v", x, ok)
	}
}

func TestZeroIsAThing(t *testing.T) {
	s := made[int](t, 2)
	i, ok := s.Take(0)
	if !ok || s.Free() != 1 {
		t.Fatalf("%d, %v, Free %d", i, ok, s.Free())
	}
	if x, ok := s.Get(i); x != 0 || !ok {
		t.Errorf("Get: %d, %v", x, ok)
	}
	if !s.Set(i, 3) || !s.Set(i, 0) {
		t.Error("Set")
	}
	if x, ok := s.Give(i); x != 0 || !ok || s.Free() != 2 {
		t.Errorf("Give: %d, %v, Free %d", x, ok, s.Free())
	}
}

// Which place is free to the program, but the same history is answered the
// same.
func TestTheSameStepsAreAnsweredTheSame(t *testing.T) {
	p, q := newPair(t, 9), newPair(t, 9)
	draw := rand.New(rand.NewSource(3))
	for range 2000 {
		i, step := draw.Intn(9), draw.Intn(3)
		for _, r := range []*pair{p, q} {
			switch step {
			case 0:
				r.take()
			case 1:
				r.give(i)
			case 2:
				r.set(i)
			}
		}
		if !maps.Equal(p.want, q.want) {
			t.Fatalf("%v, %v", p.want, q.want)
		}
	}
}

func TestSlabsAreApart(t *testing.T) {
	p, q := newPair(t, 3), newPair(t, 3)
	p.fill()
	q.check()
	q.take()
	p.give(0)
	p.give(2)
	p.set(1)
	q.check()
	q.clear()
	p.check()
}

func TestTexts(t *testing.T) {
	s := made[string](t, 2)
	for range 3 {
		a, _ := s.Take("first")
		b, ok := s.Take("")
		if i, is := s.Take("third"); !ok || is || i != 0 {
			t.Fatalf("%d, %v, %v", i, ok, is)
		}
		if x, ok := s.Get(b); x != "" || !ok {
			t.Errorf("an empty text is a thing: %q, %v", x, ok)
		}
		if !s.Set(b, "\xff\x00") {
			t.Error("Set")
		}
		if x, ok := s.Give(a); x != "first" || !ok {
			t.Errorf("%q, %v", x, ok)
		}
		if x, ok := s.Get(a); x != "" || ok {
			t.Errorf("no text: %q, %v", x, ok)
		}
		if x, ok := s.Give(a); x != "" || ok || s.Set(a, "x") {
			t.Errorf("no text: %q, %v", x, ok)
		}
		if x, ok := s.Give(b); x != "\xff\x00" || !ok {
			t.Errorf("%q, %v", x, ok)
		}
	}
}

// same is whether a and b are one list, in the same memory, with the same
// spare room.
func same(a, b []int) bool {
	return len(a) == len(b) && cap(a) == cap(b) && &a[0] == &b[0]
}

func TestListsComeBackAsTheyWereHandedIn(t *testing.T) {
	a, b := make([]int, 3, 8), []int{4, 5}
	copy(a[:8], []int{1, 2, 3, 91, 92, 93, 94, 95})
	s := made[[]int](t, 3)
	atA, _ := s.Take(a)
	atNil, _ := s.Take(nil)
	atB, _ := s.Take(nil)
	if !s.Set(atB, b) || s.Free() != 0 {
		t.Fatalf("Free %d", s.Free())
	}
	if i, ok := s.Take(b); i != 0 || ok {
		t.Errorf("no place: %d, %v", i, ok)
	}
	if x, ok := s.Get(atB); !ok || !same(x, b) {
		t.Errorf("%v, %v", x, ok)
	}
	a[1] = 7
	if x, ok := s.Get(atA); !ok || !same(x, a) || x[1] != 7 {
		t.Errorf("%v, %v", x, ok)
	}
	if x, ok := s.Give(atA); !ok || !same(x, a) {
		t.Errorf("%v, %v", x, ok)
	}
	if x, ok := s.Give(atNil); !ok || x != nil {
		t.Errorf("a nil list is a thing: %v, %v", x, ok)
	}
	if x, ok := s.Give(atNil); ok || x != nil {
		t.Errorf("no list: %v, %v", x, ok)
	}
	if x, ok := s.Give(atB); !ok || !same(x, b) {
		t.Errorf("%v, %v", x, ok)
	}
	if !slices.Equal(a[:8], []int{1, 7, 3, 91, 92, 93, 94, 95}) || !slices.Equal(b, []int{4, 5}) {
		t.Errorf("the lists are now %v, %v", a[:8], b)
	}
}

func TestStructs(t *testing.T) {
	s := made[api.Packet](t, 3)
	packet := func(n int) api.Packet {
		return api.Packet{Seq: int64(n), Flow: api.Flow{Proto: 6, SPort: uint16(n)}, Len: 60 + n}
	}
	at := [3]int{}
	for n := range at {
		at[n], _ = s.Take(packet(n))
	}
	x, ok := s.Get(at[1])
	x.Len = 1
	if y, _ := s.Get(at[1]); !ok || y != packet(1) {
		t.Errorf("a struct that was answered is the caller's own: %v", y)
	}
	if !s.Set(at[2], packet(9)) {
		t.Error("Set")
	}
	for n, want := range []api.Packet{packet(0), packet(1), packet(9)} {
		if x, ok := s.Give(at[n]); !ok || x != want {
			t.Errorf("%d: %v, %v", n, x, ok)
		}
	}
	if x, ok := s.Get(at[0]); ok || x != (api.Packet{}) {
		t.Errorf("no struct: %v, %v", x, ok)
	}
	if x, ok := s.Give(at[0]); ok || x != (api.Packet{}) {
		t.Errorf("no struct: %v, %v", x, ok)
	}
}

func TestPointersAndThingsOfNoSize(t *testing.T) {
	s := made[*int](t, 2)
	n := 5
	a, _ := s.Take(&n)
	b, _ := s.Take(nil)
	if x, ok := s.Give(a); x != &n || !ok {
		t.Errorf("%v, %v", x, ok)
	}
	if x, ok := s.Give(b); x != nil || !ok {
		t.Errorf("a nil pointer is a thing: %v, %v", x, ok)
	}
	if x, ok := s.Give(b); x != nil || ok {
		t.Errorf("no pointer: %v, %v", x, ok)
	}

	e := made[struct{}](t, 2)
	i, _ := e.Take(struct{}{})
	j, ok := e.Take(struct{}{})
	if _, is := e.Take(struct{}{}); !ok || is || i == j || e.Free() != 0 || e.Places() != 2 {
		t.Error("things of no size have places too")
	}
	if _, ok := e.Give(i); !ok || e.Free() != 1 {
		t.Error("Give")
	}
	if _, ok := e.Get(i); ok {
		t.Error("Get of a free place")
	}
}

// What was given back, or taken the place of, isn't kept: a caller may wait
// for its memory. And the places are made once: no step makes more.
func TestWhatHasGoneIsNotKept(t *testing.T) {
	draw := rand.New(rand.NewSource(1))
	p := newPair(t, 5)
	for range 2000 {
		switch draw.Intn(3) {
		case 0:
			p.take()
		case 1:
			p.give(draw.Intn(5))
		case 2:
			p.set(draw.Intn(5))
		}
		for i, has := range p.slab.places {
			if has.thing != p.want[i] {
				t.Fatalf("%v of %v", p.slab.places, p.want)
			}
		}
		if cap(p.slab.free) != 5 || cap(p.slab.places) != 5 {
			t.Fatalf("room for %d, %d", cap(p.slab.free), cap(p.slab.places))
		}
	}
}

// checkZero asks all there is of a slab that can't have anything.
func checkZero(t *testing.T, s *Slab[string]) {
	t.Helper()
	for range 2 {
		if i, ok := s.Take("x"); i != 0 || ok {
			t.Errorf("Take: %d, %v", i, ok)
		}
		for _, i := range append(outside(0), 3) {
			if x, ok := s.Get(i); x != "" || ok {
				t.Errorf("Get(%d): %q, %v", i, x, ok)
			}
			if x, ok := s.Give(i); x != "" || ok {
				t.Errorf("Give(%d): %q, %v", i, x, ok)
			}
			if s.Set(i, "x") {
				t.Errorf("Set(%d)", i)
			}
		}
		if free, places := s.Free(), s.Places(); free != 0 || places != 0 {
			t.Errorf("Free %d, Places %d", free, places)
		}
	}
}

func TestNilSlab(t *testing.T) {
	checkZero(t, nil)
}

func TestASlabMadeByHandDoesntPanic(t *testing.T) {
	checkZero(t, &Slab[string]{})
	s := made[string](t, 1)
	for range 3 {
		copied := *s
		for _, c := range []*Slab[string]{s, &copied, s, &copied} {
			c.Take("x")
			c.Give(0)
			copied.Give(0)
			s.Take("y")
			c.Set(0, "z")
			c.Get(0)
		}
	}
}

// FuzzAgainstAMap does the steps that are handed in, to a slab of as many
// places as are handed in.
func FuzzAgainstAMap(f *testing.F) {
	f.Add(uint8(0), []byte{0, 0, 129, 193, 0, 129})
	f.Add(uint8(2), []byte{0, 0, 0, 0, 130, 194, 0, 129, 131, 130, 128, 132})
	f.Add(uint8(5), []byte{0, 0, 129, 0, 0, 0, 0, 0, 133, 131, 195, 0, 0, 255})
	f.Fuzz(func(t *testing.T, places uint8, steps []byte) {
		p := newPair(t, int(places)+1)
		for _, s := range steps {
			switch {
			case s < 128:
				p.take()
			case s < 192: // a step is Give of as many, from -1 on
				p.give(int(s) - 129)
			default: // from 192 on it is Set of as many, from -1 on
				p.set(int(s) - 193)
			}
		}
	})
}
