package mail

import (
	"math"
	"math/rand"
	"slices"
	"testing"

	"bailiff/api"
)

// pair is a box of numbers, and a list of what it ought to have. Each step
// is done to both, and what the box says of itself is held against the list
// behind it.
type pair struct {
	t    *testing.T
	box  *Box[int]
	room int
	want []int
	next int
}

func newPair(t *testing.T, room int) *pair {
	t.Helper()
	return &pair{t: t, box: made[int](t, room), room: room, next: 1}
}

// made is a box that New must not refuse.
func made[T any](t *testing.T, room int) *Box[T] {
	t.Helper()
	b, e := New[T](room)
	if b == nil || e != api.OK {
		t.Fatalf("New(%d): %v, %v", room, b, e)
	}
	return b
}

// put puts a number in that was never put in ahead of it, and is never 0.
func (p *pair) put() {
	p.t.Helper()
	fits := len(p.want) < p.room
	if got := p.box.Put(p.next); got != fits {
		p.t.Fatalf("Put(%d) into %v of room %d: %v", p.next, p.want, p.room, got)
	}
	if fits {
		p.want = append(p.want, p.next)
	}
	p.next++
	p.check()
}

func (p *pair) take() {
	p.t.Helper()
	wantX, wantOK := 0, len(p.want) > 0
	if wantOK {
		wantX = p.want[0]
	}
	if x, ok := p.box.Take(); x != wantX || ok != wantOK {
		p.t.Fatalf("Take of %v: %d, %v", p.want, x, ok)
	}
	p.gone(1)
}

func (p *pair) drain(most int) {
	p.t.Helper()
	n := max(0, min(most, len(p.want)))
	if got := p.box.Drain(most); !slices.Equal(got, p.want[:n]) {
		p.t.Fatalf("Drain(%d) of %v: %v", most, p.want, got)
	}
	p.gone(n)
}

// gone leaves the first n out of the list, or as many as there are.
func (p *pair) gone(n int) {
	p.t.Helper()
	p.want = p.want[min(n, len(p.want)):]
	p.check()
}

func (p *pair) check() {
	p.t.Helper()
	if n := p.box.Len(); n != len(p.want) {
		p.t.Fatalf("Len of %v: %d", p.want, n)
	}
}

// fill puts things in till there is no room, and once more.
func (p *pair) fill() {
	p.t.Helper()
	for len(p.want) < p.room {
		p.put()
	}
	p.put()
}

// clear takes things out till there is none, and once more.
func (p *pair) clear() {
	p.t.Helper()
	for len(p.want) > 0 {
		p.take()
	}
	p.take()
}

func TestNewRefusesARoomOutOfBounds(t *testing.T) {
	for _, room := range []int{0, -1, -2, -api.MaxRoom, math.MinInt, api.MaxRoom + 1, 2 * api.MaxRoom, 1 << 32, 1<<32 + 1, math.MaxInt} {
		if b, e := New[int](room); b != nil || e != api.ErrArg {
			t.Errorf("New(%d): %v, %v", room, b, e)
		}
		if b, e := New[[]string](room); b != nil || e != api.ErrArg {
			t.Errorf("New(%d) of lists: %v, %v", room, b, e)
		}
	}
}

func TestNewIsWithoutAnything(t *testing.T) {
	for _, room := range []int{1, 2, 3, 1000, api.MaxRoom - 1, api.MaxRoom} {
		p := newPair(t, room)
		p.check()
		p.take()
		for _, most := range []int{0, 1, -1, room, math.MaxInt, math.MinInt} {
			p.drain(most)
		}
		p.fill()
		p.clear()
	}
}

func TestTheChaptersExample(t *testing.T) {
	b := made[int](t, 1)
	if !b.Put(5) || b.Put(6) {
		t.Error("Put")
	}
	if x, ok := b.Take(); x != 5 || !ok {
		t.Errorf("Take: %d, %v", x, ok)
	}
	if x, ok := b.Take(); x != 0 || ok {
		t.Errorf("Take of nothing: %d, %v", x, ok)
	}
}

func TestRoomForOne(t *testing.T) {
	p := newPair(t, 1)
	for _, most := range []int{1, 2, api.MaxRoom, math.MaxInt} {
		p.fill()
		p.fill()
		p.take()
		p.take()
		p.put()
		p.drain(0)
		p.drain(-1)
		p.drain(math.MinInt)
		p.drain(most)
		p.drain(most)
	}
}

func TestRoomForTheMost(t *testing.T) {
	p := newPair(t, api.MaxRoom)
	for range 3 {
		p.fill()
		p.drain(0)
		p.drain(api.MaxRoom - 1000)
		p.take()
		p.fill()
	}
	p.drain(api.MaxRoom - 1)
	p.clear()
	for _, most := range []int{api.MaxRoom, api.MaxRoom + 1, math.MaxInt} {
		p.fill()
		p.drain(most)
		p.drain(most)
		p.take()
	}
}

// A box of each room, with each number of things, drained of each number of
// them, and filled again: what stayed is ahead of what came.
func TestEachDrainOfEachBox(t *testing.T) {
	for room := 1; room <= 6; room++ {
		for n := 0; n <= room; n++ {
			for _, most := range []int{0, 1, 2, 3, 4, 5, 6, 7, 8, -1, -2, -n, -n - 1, api.MaxRoom, 1 << 32, 1<<32 + 1, -1 << 32, math.MaxInt, math.MinInt} {
				p := newPair(t, room)
				for range n {
					p.put()
				}
				p.drain(most)
				p.fill()
				p.drain(most)
				p.drain(most)
				p.fill()
				p.clear()
			}
		}
	}
}

func TestFilledAgainWhenSomeWereTaken(t *testing.T) {
	for room := 1; room <= 7; room++ {
		for n := 1; n <= room; n++ {
			p := newPair(t, room)
			for range 3 * room {
				p.fill()
				for range n {
					p.take()
				}
				p.fill()
				p.drain(n)
			}
			p.clear()
		}
	}
}

func TestOrderHoweverOftenItGoesRound(t *testing.T) {
	for room := 1; room <= 5; room++ {
		for waiting := range room {
			p := newPair(t, room)
			for range waiting {
				p.put()
			}
			for range 20 * room {
				p.put()
				p.take()
				p.put()
				p.drain(1)
			}
		}
	}
}

func TestWhatIsRefusedChangesNothing(t *testing.T) {
	p := newPair(t, 3)
	for range 5 {
		for range 5 {
			p.take()
			p.drain(0)
			p.drain(4)
		}
		p.fill()
		for range 5 {
			p.put()
			p.drain(0)
			p.drain(-1)
			p.drain(math.MinInt)
		}
		p.clear()
	}
}

func TestEverySequenceOfFewSteps(t *testing.T) {
	steps := []func(*pair){
		(*pair).put,
		(*pair).take,
		func(p *pair) { p.drain(0) },
		func(p *pair) { p.drain(2) },
		func(p *pair) { p.drain(len(p.want) + 1) },
	}
	const depth = 7
	all := 1
	for range depth {
		all *= len(steps)
	}
	for room := 1; room <= 3; room++ {
		for s := range all {
			p := newPair(t, room)
			for range depth {
				steps[s%len(steps)](p)
				s /= len(steps)
			}
			p.clear()
		}
	}
}

func TestLongMixedRun(t *testing.T) {
	for _, room := range []int{1, 2, 7, 64} {
		draw := rand.New(rand.NewSource(int64(room)))
		p := newPair(t, room)
		for range 5000 {
			switch draw.Intn(8) {
			case 0, 1, 2, 3, 4:
				p.put()
			case 5, 6:
				p.take()
			case 7:
				p.drain(draw.Intn(room+3) - 1)
			}
		}
	}
}

func TestLookingChangesNothing(t *testing.T) {
	p := newPair(t, 3)
	p.put()
	p.put()
	for range 10 {
		p.check()
	}
	p.fill()
	p.clear()
}

func TestBoxesAreApart(t *testing.T) {
	p, q := newPair(t, 3), newPair(t, 3)
	p.fill()
	q.check()
	q.put()
	p.take()
	p.drain(1)
	q.check()
	q.clear()
	p.clear()
}

func TestTheSameThingSeveralTimes(t *testing.T) {
	b := made[int](t, 4)
	for range 4 {
		if !b.Put(5) {
			t.Fatal("Put")
		}
	}
	if l := b.Drain(3); !slices.Equal(l, []int{5, 5, 5}) || b.Len() != 1 {
		t.Errorf("%v, Len %d", l, b.Len())
	}
}

func TestZeroIsAThing(t *testing.T) {
	b := made[int](t, 2)
	if !b.Put(0) || !b.Put(0) || b.Put(0) || b.Len() != 2 {
		t.Fatalf("Len %d", b.Len())
	}
	if x, ok := b.Take(); x != 0 || !ok || b.Len() != 1 {
		t.Errorf("Take: %d, %v, Len %d", x, ok, b.Len())
	}
	if l := b.Drain(2); !slices.Equal(l, []int{0}) {
		t.Errorf("Drain: %v", l)
	}
	if x, ok := b.Take(); x != 0 || ok {
		t.Errorf("Take of nothing: %d, %v", x, ok)
	}
}

// What Drain answered is the caller's own, spare room too: whatever is done
// to it, neither the box nor another answer has it.
func TestWhatDrainAnswersIsNewMemory(t *testing.T) {
	p := newPair(t, 9)
	var kept [][]int
	for n := range 10 {
		p.fill()
		l := p.box.Drain(n)
		p.gone(n)
		l = l[:cap(l)]
		for k := range l {
			l[k] = -1000 - n
		}
		kept = append(kept, l)
		p.fill()
		p.drain(n)
	}
	p.clear()
	for n, l := range kept {
		for _, x := range l {
			if x != -1000-n {
				t.Fatalf("the answer of %d is now %v", n, l)
			}
		}
	}
}

// FuzzAgainstAList does the steps that are handed in, to a box of the room
// that is handed in.
func FuzzAgainstAList(f *testing.F) {
	f.Add(uint8(0), []byte{0, 0, 128, 128, 0, 194})
	f.Add(uint8(2), []byte{0, 0, 0, 0, 128, 194, 0, 0, 0, 192, 193, 255})
	f.Add(uint8(5), []byte{0, 0, 193, 0, 0, 0, 0, 0, 0, 197, 128, 0, 0, 200})
	f.Fuzz(func(t *testing.T, room uint8, steps []byte) {
		p := newPair(t, int(room)+1)
		for _, s := range steps {
			switch {
			case s < 128:
				p.put()
			case s < 192:
				p.take()
			default: // from 192 on it is Drain of as many, from -1 on
				p.drain(int(s) - 193)
			}
		}
	})
}
