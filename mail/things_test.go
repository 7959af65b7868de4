package mail

import (
	"math"
	"runtime"
	"slices"
	"testing"
	"weak"

	"bailiff/api"
)

func TestTexts(t *testing.T) {
	b := made[string](t, 3)
	for range 3 {
		if !b.Put("first") || !b.Put("") || !b.Put("\xff\x00") || b.Put("fourth") {
			t.Fatal("room for three")
		}
		if x, ok := b.Take(); x != "first" || !ok {
			t.Errorf("%q, %v", x, ok)
		}
		if x, ok := b.Take(); x != "" || !ok || b.Len() != 1 {
			t.Errorf("an empty text is a thing: %q, %v", x, ok)
		}
		if l := b.Drain(2); !slices.Equal(l, []string{"\xff\x00"}) {
			t.Errorf("%q", l)
		}
		if x, ok := b.Take(); x != "" || ok {
			t.Errorf("no text: %q, %v", x, ok)
		}
	}
}

// same is whether a and b are one list, in the same memory, with the same
// spare room.
func same(a, b []int) bool {
	return len(a) == len(b) && cap(a) == cap(b) && &a[0] == &b[0]
}

func TestListsComeBackAsTheyWereHandedIn(t *testing.T) {
	a, c := make([]int, 3, 8), []int{4, 5}
	copy(a[:8], []int{1, 2, 3, 91, 92, 93, 94, 95})
	b := made[[]int](t, 3)
	if !b.Put(a) || !b.Put(nil) || !b.Put(c) || b.Put(c) {
		t.Fatal("Put")
	}
	a[1] = 7
	if x, ok := b.Take(); !ok || !same(x, a) || x[1] != 7 {
		t.Errorf("%v, %v", x, ok)
	}
	if x, ok := b.Take(); !ok || x != nil {
		t.Errorf("a nil list is a thing: %v, %v", x, ok)
	}
	if !b.Put(a) {
		t.Error("Put")
	}
	if l := b.Drain(9); len(l) != 2 || !same(l[0], c) || !same(l[1], a) {
		t.Errorf("%v", l)
	}
	if x, ok := b.Take(); ok || x != nil {
		t.Errorf("no list: %v, %v", x, ok)
	}
	if !slices.Equal(a[:8], []int{1, 7, 3, 91, 92, 93, 94, 95}) || !slices.Equal(c, []int{4, 5}) {
		t.Errorf("the lists are now %v, %v", a[:8], c)
	}
}

func TestStructs(t *testing.T) {
	b := made[api.Packet](t, 2)
	packet := func(n int) api.Packet {
		return api.Packet{Seq: int64(n), Flow: api.Flow{Proto: 6, SPort: uint16(n)}, Len: 60 + n}
	}
	mine := packet(1)
	if !b.Put(mine) || !b.Put(packet(2)) || b.Put(packet(3)) {
		t.Fatal("Put")
	}
	mine.Len = 1 // what was put in was a struct of its own
	if x, ok := b.Take(); !ok || x != packet(1) {
		t.Errorf("%v, %v", x, ok)
	}
	if l := b.Drain(2); !slices.Equal(l, []api.Packet{packet(2)}) {
		t.Errorf("%v", l)
	}
	if x, ok := b.Take(); ok || x != (api.Packet{}) {
		t.Errorf("no struct: %v, %v", x, ok)
	}
}

func TestPointers(t *testing.T) {
	b := made[*int](t, 2)
	n := 5
	if !b.Put(&n) || !b.Put(nil) || b.Put(&n) {
		t.Fatal("Put")
	}
	if x, ok := b.Take(); x != &n || !ok {
		t.Errorf("%v, %v", x, ok)
	}
	if x, ok := b.Take(); x != nil || !ok {
		t.Errorf("a nil pointer is a thing: %v, %v", x, ok)
	}
	if x, ok := b.Take(); x != nil || ok {
		t.Errorf("no pointer: %v, %v", x, ok)
	}
}

func TestThingsOfNoSize(t *testing.T) {
	b := made[struct{}](t, 2)
	if !b.Put(struct{}{}) || !b.Put(struct{}{}) || b.Put(struct{}{}) || b.Len() != 2 {
		t.Error("things of no size have places too")
	}
	if _, ok := b.Take(); !ok || b.Len() != 1 {
		t.Error("Take")
	}
	if l := b.Drain(9); len(l) != 1 || b.Len() != 0 {
		t.Error("Drain")
	}
	if _, ok := b.Take(); ok {
		t.Error("Take of nothing")
	}
}

// Go has no channels of things as great as these, but a box of whatever
// things has to be.
func TestThingsOfGreatSize(t *testing.T) {
	type great [1 << 17]byte
	b := made[great](t, 2)
	for k := range 2 {
		var x great
		x[0], x[len(x)-1] = byte(k+1), byte(k+101)
		if !b.Put(x) {
			t.Fatal("Put")
		}
	}
	if b.Put(great{}) || b.Len() != 2 {
		t.Errorf("Len %d", b.Len())
	}
	if x, ok := b.Take(); !ok || x[0] != 1 || x[len(x)-1] != 101 {
		t.Error("Take")
	}
	if l := b.Drain(2); len(l) != 1 || l[0][0] != 2 || l[0][len(l[0])-1] != 102 {
		t.Error("Drain")
	}
	if x, ok := b.Take(); ok || x != (great{}) {
		t.Error("Take of nothing")
	}
}

func TestErrorsFunctionsMapsAndFloats(t *testing.T) {
	e := made[error](t, 2)
	if !e.Put(nil) || !e.Put(api.ErrFull) {
		t.Error("Put")
	}
	if l := e.Drain(3); len(l) != 2 || l[0] != nil || l[1] != api.ErrFull {
		t.Errorf("%v", l)
	}

	f := made[func(int) int](t, 1)
	f.Put(func(x int) int { return x + 1 })
	if call, ok := f.Take(); !ok || call(4) != 5 {
		t.Error("a function")
	}
	if call, ok := f.Take(); ok || call != nil {
		t.Error("no function")
	}

	m := made[map[string]int](t, 1)
	mine := map[string]int{"a": 1}
	m.Put(mine)
	mine["b"] = 2
	if x, ok := m.Take(); !ok || len(x) != 2 {
		t.Errorf("%v, %v", x, ok)
	}

	n := made[float64](t, 1)
	n.Put(math.NaN())
	if x, ok := n.Take(); !ok || !math.IsNaN(x) {
		t.Errorf("%v, %v", x, ok)
	}
}

func TestABoxOfBoxes(t *testing.T) {
	b := made[*Box[int]](t, 1)
	in := made[int](t, 1)
	b.Put(in)
	in.Put(8)
	out, _ := b.Take()
	if x, ok := out.Take(); out != in || x != 8 || !ok {
		t.Errorf("%d, %v", x, ok)
	}
}

// watched puts n things in and takes half of them one by one, the others by
// Drain; it answers a look at each that doesn't keep it.
func watched(t *testing.T, b *Box[*[1024]byte], n int) []weak.Pointer[[1024]byte] {
	var looks []weak.Pointer[[1024]byte]
	for range n {
		x := new([1024]byte)
		looks = append(looks, weak.Make(x))
		if !b.Put(x) {
			t.Fatal("Put")
		}
	}
	for range n / 2 {
		b.Take()
	}
	b.Drain(n)
	return looks
}

// What has gone isn't kept: a caller may wait for its memory. (A few may be
// left in spots of the stack that nothing was written to yet.)
func TestWhatHasGoneIsNotKept(t *testing.T) {
	const n = 200
	b := made[*[1024]byte](t, n)
	looks := watched(t, b, n)
	runtime.GC()
	left := 0
	for _, l := range looks {
		if l.Value() != nil {
			left++
		}
	}
	if left > n/10 {
		t.Errorf("%d of %d are kept", left, n)
	}
	runtime.KeepAlive(b)
}

// checkZero asks all there is of a box that can't have anything.
func checkZero(t *testing.T, b *Box[string]) {
	t.Helper()
	for range 2 {
		if b.Put("x") {
			t.Error("Put")
		}
		if x, ok := b.Take(); x != "" || ok {
			t.Errorf("Take: %q, %v", x, ok)
		}
		for _, most := range []int{0, 1, 2, -1, api.MaxRoom, math.MaxInt, math.MinInt} {
			if l := b.Drain(most); len(l) != 0 {
				t.Errorf("Drain(%d): %q", most, l)
			}
		}
		if n := b.Len(); n != 0 {
			t.Errorf("Len: %d", n)
		}
	}
}

func TestNilBox(t *testing.T) {
	checkZero(t, nil)
	refused, _ := New[string](0)
	checkZero(t, refused)
}

func TestABoxMadeByHandDoesntPanic(t *testing.T) {
	checkZero(t, &Box[string]{})
	b := made[string](t, 1)
	copied := *b
	for range 3 {
		for _, c := range []*Box[string]{b, &copied} {
			c.Put("x")
			c.Put("y")
			c.Len()
			c.Take()
			c.Drain(2)
		}
	}
}
