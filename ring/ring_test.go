package ring

import (
	"math"
	"math/rand"
	"slices"
	"testing"

	"bailiff/api"
)

// pair is a ring of numbers, and a list of what it ought to have. Each step
// is done to both, and all that the ring says of itself is held against the
// list behind it.
type pair struct {
	t    *testing.T
	ring *Ring[int]
	room int
	want []int
	next int
}

func newPair(t *testing.T, room int) *pair {
	t.Helper()
	return &pair{t: t, ring: made[int](t, room), room: room, next: 1}
}

// made is a ring that New must not refuse.
func made[T any](t *testing.T, room int) *Ring[T] {
	t.Helper()
	r, e := New[T](room)
	if r == nil || e != api.OK {
		t.Fatalf("New(%d): %v, %v", room, r, e)
	}
	return r
}

// push pushes a number that was never pushed ahead of it, and is never 0.
func (p *pair) push() {
	p.t.Helper()
	fits := len(p.want) < p.room
	if got := p.ring.Push(p.next); got != fits {
		p.t.Fatalf("Push(%d) into %v of room %d: %v", p.next, p.want, p.room, got)
	}
	if fits {
		p.want = append(p.want, p.next)
	}
	p.next++
	p.check()
}

func (p *pair) pop() {
	p.t.Helper()
	x, ok := p.ring.Pop()
	p.gone("Pop", 0, x, ok)
}

func (p *pair) cut(k int) {
	p.t.Helper()
	x, ok := p.ring.Cut(k)
	p.gone("Cut", k, x, ok)
}

// gone holds what a Pop or a Cut of the k-th one answered against the list.
func (p *pair) gone(call string, k, x int, ok bool) {
	p.t.Helper()
	wantX, wantOK := p.kth(k)
	if x != wantX || ok != wantOK {
		p.t.Fatalf("%s(%d) of %v: %d, %v", call, k, p.want, x, ok)
	}
	if ok {
		p.want = slices.Delete(p.want, k, k+1)
	}
	p.check()
}

func (p *pair) at(k int) {
	p.t.Helper()
	wantX, wantOK := p.kth(k)
	if x, ok := p.ring.At(k); x != wantX || ok != wantOK {
		p.t.Fatalf("At(%d) of %v: %d, %v", k, p.want, x, ok)
	}
}

func (p *pair) kth(k int) (int, bool) {
	if k < 0 || k >= len(p.want) {
		return 0, false
	}
	return p.want[k], true
}

// check looks at all that is there, and just beyond both ends of it.
func (p *pair) check() {
	p.t.Helper()
	if n, room := p.ring.Len(), p.ring.Room(); n != len(p.want) || room != p.room {
		p.t.Fatalf("%v of room %d: Len %d, Room %d", p.want, p.room, n, room)
	}
	for k := -1; k <= len(p.want)+1; k++ {
		p.at(k)
	}
}

// fill pushes till there is no room.
func (p *pair) fill() {
	p.t.Helper()
	for len(p.want) < p.room {
		p.push()
	}
}

// outside are numbers at which no ring of n things has one.
func outside(n int) []int {
	return []int{n, n + 1, n + api.MaxRoom, 1 << 40, math.MaxInt, -1, -2, -n - 1, -api.MaxRoom, -1 << 40, math.MinInt}
}

func TestNewRefusesARoomOutOfBounds(t *testing.T) {
	for _, room := range []int{0, -1, -2, -api.MaxRoom, math.MinInt, api.MaxRoom + 1, 2 * api.MaxRoom, 1 << 32, math.MaxInt} {
		if r, e := New[int](room); r != nil || e != api.ErrArg {
			t.Errorf("New(%d): %v, %v", room, r, e)
		}
		if r, e := New[[]string](room); r != nil || e != api.ErrArg {
			t.Errorf("New(%d) of lists: %v, %v", room, r, e)
		}
	}
}

func TestNewIsWithoutAnything(t *testing.T) {
	for _, room := range []int{1, 2, 3, 1000, api.MaxRoom - 1, api.MaxRoom} {
		p := newPair(t, room)
		p.check()
		p.pop()
		for _, k := range append(outside(0), room-1, room) {
			p.at(k)
			p.cut(k)
		}
	}
}

func TestTheChaptersExample(t *testing.T) {
	r := made[int](t, 3)
	for _, x := range []int{1, 2, 3} {
		if !r.Push(x) {
			t.Errorf("Push(%d)", x)
		}
	}
	if x, ok := r.Cut(1); x != 2 || !ok {
		t.Errorf("Cut(1): %d, %v", x, ok)
	}
	if x, ok := r.Pop(); x != 1 || !ok {
		t.Errorf("Pop: %d, %v", x, ok)
	}
	if x, ok := r.Pop(); x != 3 || !ok {
		t.Errorf("Pop: %d, %v", x, ok)
	}
	if x, ok := r.Pop(); x != 0 || ok {
		t.Errorf("Pop of nothing: %d, %v", x, ok)
	}
}

func TestRoomForOne(t *testing.T) {
	p := newPair(t, 1)
	for range 5 {
		p.push()
		p.push()
		p.pop()
		p.pop()
		p.push()
		p.cut(1)
		p.cut(-1)
		p.cut(0)
		p.cut(0)
	}
}

func TestRoomForTheMost(t *testing.T) {
	r := made[int](t, api.MaxRoom)
	next, first := 0, 0
	for range 3 {
		for r.Len() < api.MaxRoom {
			if !r.Push(next) {
				t.Fatalf("Push into %d", r.Len())
			}
			next++
		}
		if r.Push(-7) || r.Len() != api.MaxRoom || r.Room() != api.MaxRoom {
			t.Fatalf("full: Len %d, Room %d", r.Len(), r.Room())
		}
		for k := range api.MaxRoom {
			if x, ok := r.At(k); x != first+k || !ok {
				t.Fatalf("At(%d): %d, %v", k, x, ok)
			}
		}
		if x, ok := r.At(api.MaxRoom); x != 0 || ok {
			t.Fatalf("behind the last: %d, %v", x, ok)
		}
		for range api.MaxRoom - 1000 {
			if x, ok := r.Pop(); x != first || !ok {
				t.Fatalf("Pop: %d, %v, not %d", x, ok, first)
			}
			first++
		}
	}
	if x, ok := r.Cut(999); x != next-1 || !ok {
		t.Errorf("the last one cut: %d, %v", x, ok)
	}
	if x, ok := r.Cut(999); x != 0 || ok {
		t.Errorf("behind the last one cut: %d, %v", x, ok)
	}
}

// A ring of each room, begun at each of its places, with each number of
// things: so each cut also goes over the seam.
func TestEachCutOfEachRing(t *testing.T) {
	for room := 1; room <= 6; room++ {
		for start := range room {
			for n := 1; n <= room; n++ {
				for k := range n {
					p := newPair(t, room)
					for range start {
						p.push()
						p.pop()
					}
					for range n {
						p.push()
					}
					p.cut(n)
					p.cut(k)
					p.fill()
					p.push()
					for range room + 1 {
						p.pop()
					}
				}
			}
		}
	}
}

func TestAllCutFromTheFrontAndFromTheBack(t *testing.T) {
	p := newPair(t, 7)
	for range 10 {
		p.fill()
		for range 7 {
			p.cut(0)
		}
		p.push()
		p.pop()
		p.fill()
		for n := 7; n > 0; n-- {
			p.cut(n)
			p.cut(n - 1)
		}
	}
}

func TestOrderHoweverOftenItGoesRound(t *testing.T) {
	for room := 1; room <= 5; room++ {
		for waiting := range room {
			p := newPair(t, room)
			for range waiting {
				p.push()
			}
			for range 20 * room {
				p.push()
				p.pop()
			}
		}
	}
}

func TestWhatIsRefusedChangesNothing(t *testing.T) {
	for _, n := range []int{0, 1, 3, 4} {
		p := newPair(t, 4)
		p.push()
		p.push()
		p.pop()
		p.pop()
		for range n {
			p.push()
		}
		for _, k := range outside(n) {
			p.at(k)
			p.cut(k)
			p.check()
		}
		if n == 0 {
			p.pop()
			p.pop()
		}
		p.fill()
		for range 3 {
			p.push()
		}
		for range 5 {
			p.pop()
		}
	}
}

func TestEverySequenceOfFewSteps(t *testing.T) {
	steps := []func(*pair){
		(*pair).push,
		(*pair).pop,
		func(p *pair) { p.cut(1) },
		func(p *pair) { p.cut(2) },
		func(p *pair) { p.cut(len(p.want) - 1) },
	}
	const depth = 7
	all := 1
	for range depth {
		all *= len(steps)
	}
	for room := 1; room <= 3; room++ {
		for s := range all {
			p := newPair(t, room)
			for range depth {
				steps[s%len(steps)](p)
				s /= len(steps)
			}
		}
	}
}

func TestLongMixedRun(t *testing.T) {
	for _, room := range []int{1, 2, 7, 64} {
		draw := rand.New(rand.NewSource(int64(room)))
		p := newPair(t, room)
		for range 5000 {
			switch draw.Intn(5) {
			case 0, 1, 2:
				p.push()
			case 3:
				p.pop()
			case 4:
				p.cut(draw.Intn(room+2) - 1)
			}
		}
	}
}

func TestLookingChangesNothing(t *testing.T) {
	p := newPair(t, 3)
	p.push()
	p.push()
	for range 10 {
		p.check()
	}
	p.pop()
	p.pop()
	p.pop()
}

func TestRingsAreApart(t *testing.T) {
	p, q := newPair(t, 3), newPair(t, 3)
	p.fill()
	q.check()
	q.push()
	p.pop()
	p.cut(1)
	q.check()
	q.pop()
	p.check()
}

func TestTexts(t *testing.T) {
	r := made[string](t, 2)
	for range 3 {
		if !r.Push("first") || !r.Push("") || r.Push("third") {
			t.Fatal("room for two")
		}
		if x, ok := r.At(1); x != "" || !ok {
			t.Errorf("an empty text is a thing: %q, %v", x, ok)
		}
		if x, ok := r.Pop(); x != "first" || !ok {
			t.Errorf("%q, %v", x, ok)
		}
		if !r.Push("\xff\x00") {
			t.Error("room for one more")
		}
		if x, ok := r.Cut(1); x != "\xff\x00" || !ok {
			t.Errorf("%q, %v", x, ok)
		}
		if x, ok := r.Cut(1); x != "" || ok {
			t.Errorf("no such text: %q, %v", x, ok)
		}
		if x, ok := r.Pop(); x != "" || !ok {
			t.Errorf("%q, %v", x, ok)
		}
		if x, ok := r.Pop(); x != "" || ok {
			t.Errorf("no text: %q, %v", x, ok)
		}
	}
}

// same is whether a and b are one list, in the same memory, with the same
// spare room.
func same(a, b []int) bool {
	return len(a) == len(b) && cap(a) == cap(b) && &a[0] == &b[0]
}

func TestListsComeBackAsTheyWereHandedIn(t *testing.T) {
	a, b, c := make([]int, 3, 8), []int{4, 5}, []int{6}
	copy(a[:8], []int{1, 2, 3, 91, 92, 93, 94, 95})
	r := made[[]int](t, 4)
	for _, l := range [][]int{a, nil, b, c} {
		if !r.Push(l) {
			t.Fatal("room for four")
		}
	}
	if r.Push(c) {
		t.Error("room for four alone")
	}
	if x, ok := r.At(0); !ok || !same(x, a) {
		t.Errorf("%v, %v", x, ok)
	}
	if x, ok := r.Cut(2); !ok || !same(x, b) {
		t.Errorf("%v, %v", x, ok)
	}
	a[1] = 7
	if x, ok := r.Pop(); !ok || !same(x, a) || x[1] != 7 {
		t.Errorf("%v, %v", x, ok)
	}
	if x, ok := r.Pop(); !ok || x != nil {
		t.Errorf("a nil list is a thing: %v, %v", x, ok)
	}
	if x, ok := r.Cut(0); !ok || !same(x, c) {
		t.Errorf("%v, %v", x, ok)
	}
	if x, ok := r.At(0); ok || x != nil {
		t.Errorf("no list: %v, %v", x, ok)
	}
	if !slices.Equal(a[:8], []int{1, 7, 3, 91, 92, 93, 94, 95}) || !slices.Equal(b, []int{4, 5}) || !slices.Equal(c, []int{6}) {
		t.Errorf("the lists are now %v, %v, %v", a[:8], b, c)
	}
}

func TestStructs(t *testing.T) {
	r := made[api.Packet](t, 3)
	packet := func(n int) api.Packet {
		return api.Packet{Seq: int64(n), Flow: api.Flow{Proto: 6, SPort: uint16(n)}, Len: 60 + n}
	}
	for n := range 3 {
		if !r.Push(packet(n)) {
			t.Fatal(n)
		}
	}
	x, ok := r.At(1)
	x.Len = 1
	if y, _ := r.At(1); !ok || y != packet(1) {
		t.Errorf("a struct that was answered is the caller's own: %v", y)
	}
	if x, ok := r.Cut(1); !ok || x != packet(1) {
		t.Errorf("%v, %v", x, ok)
	}
	for _, n := range []int{0, 2} {
		if x, ok := r.Pop(); !ok || x != packet(n) {
			t.Errorf("%d: %v, %v", n, x, ok)
		}
	}
	for _, take := range []func() (api.Packet, bool){
		r.Pop,
		func() (api.Packet, bool) { return r.At(0) },
		func() (api.Packet, bool) { return r.Cut(0) },
	} {
		if x, ok := take(); ok || x != (api.Packet{}) {
			t.Errorf("no struct: %v, %v", x, ok)
		}
	}
}

func TestPointersAndThingsOfNoSize(t *testing.T) {
	r := made[*int](t, 2)
	n := 5
	r.Push(&n)
	r.Push(nil)
	if x, ok := r.Pop(); x != &n || !ok {
		t.Errorf("%v, %v", x, ok)
	}
	if x, ok := r.Pop(); x != nil || !ok {
		t.Errorf("a nil pointer is a thing: %v, %v", x, ok)
	}
	if x, ok := r.Pop(); x != nil || ok {
		t.Errorf("no pointer: %v, %v", x, ok)
	}

	e := made[struct{}](t, 2)
	if !e.Push(struct{}{}) || !e.Push(struct{}{}) || e.Push(struct{}{}) || e.Len() != 2 || e.Room() != 2 {
		t.Error("things of no size are counted too")
	}
	if _, ok := e.Cut(1); !ok || e.Len() != 1 {
		t.Error("cut")
	}
}

// What has gone isn't kept: a caller may wait for its memory.
func TestWhatHasGoneIsNotKept(t *testing.T) {
	draw := rand.New(rand.NewSource(1))
	p := newPair(t, 5)
	for range 2000 {
		switch draw.Intn(3) {
		case 0:
			p.push()
		case 1:
			p.pop()
		case 2:
			p.cut(draw.Intn(5))
		}
		kept := 0
		for _, x := range p.ring.places {
			if x != 0 {
				kept++
			}
		}
		if kept != len(p.want) {
			t.Fatalf("%v of %v", p.ring.places, p.want)
		}
	}
}

// checkZero asks all there is of a ring that can't have anything.
func checkZero(t *testing.T, r *Ring[string]) {
	t.Helper()
	for range 2 {
		if r.Push("x") {
			t.Error("Push")
		}
		if x, ok := r.Pop(); x != "" || ok {
			t.Errorf("Pop: %q, %v", x, ok)
		}
		for _, k := range outside(0) {
			if x, ok := r.At(k); x != "" || ok {
				t.Errorf("At(%d): %q, %v", k, x, ok)
			}
			if x, ok := r.Cut(k); x != "" || ok {
				t.Errorf("Cut(%d): %q, %v", k, x, ok)
			}
		}
		if n, room := r.Len(), r.Room(); n != 0 || room != 0 {
			t.Errorf("Len %d, Room %d", n, room)
		}
	}
}

func TestNilRing(t *testing.T) {
	checkZero(t, nil)
}

func TestARingMadeByHandDoesntPanic(t *testing.T) {
	checkZero(t, &Ring[string]{})
}

// FuzzAgainstAList does the steps that are handed in, to a ring of the room
// that is handed in.
func FuzzAgainstAList(f *testing.F) {
	f.Add(uint8(0), []byte{0, 0, 128, 128})
	f.Add(uint8(2), []byte{0, 0, 0, 0, 162, 128, 0, 128, 128, 128})
	f.Add(uint8(5), []byte{0, 0, 128, 0, 0, 0, 0, 165, 163, 161, 160, 0, 0, 255})
	f.Fuzz(func(t *testing.T, room uint8, steps []byte) {
		p := newPair(t, int(room)+1)
		for _, s := range steps {
			switch {
			case s < 128:
				p.push()
			case s < 160:
				p.pop()
			default: // from 160 on a step is Cut of as many, from -1 on
				p.cut(int(s) - 161)
			}
		}
	})
}
