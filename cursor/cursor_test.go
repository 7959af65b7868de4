package cursor

import (
	"bytes"
	"encoding/binary"
	"math"
	"testing"
)

// numbers64 are numbers of every kind: the ordinary ones, the least, the
// greatest, and those at which a byte more begins.
func numbers64() []uint64 {
	l := []uint64{0, 1, 2, 127, 258, 0x0102030405060708, 0xf1e2d3c4b5a69788, math.MaxUint64, math.MaxUint64 - 1}
	for shift := range 64 {
		l = append(l, 1<<shift, 1<<shift-1)
	}
	return l
}

// counting is n bytes, of which each differs from the one ahead of it.
func counting(n int) []byte {
	b := make([]byte, n)
	for k := range b {
		b[k] = byte(k*7 + 3)
	}
	return b
}

// spoil overwrites all of b, its spare room too.
func spoil(b []byte) {
	b = b[:cap(b)]
	for k := range b {
		b[k] = 0xee
	}
}

// told is what an In says of itself.
type told struct {
	left      int
	bad, done bool
}

func ask(i *In) told { return told{i.Left(), i.Bad(), i.Done()} }

func check(t *testing.T, when string, i *In, want told) {
	t.Helper()
	if got := ask(i); got != want {
		t.Errorf("%s: %+v, not %+v", when, got, want)
	}
}

// checkStaysBad asks all there is of a bad In: nothing is taken any more.
func checkStaysBad(t *testing.T, when string, i *In) {
	t.Helper()
	bad := told{0, true, false}
	check(t, when, i, bad)
	if a, b, c, d := i.U8(), i.U16(), i.U32(), i.U64(); a != 0 || b != 0 || c != 0 || d != 0 {
		t.Errorf("%s: taken of a bad one: %d %d %d %d", when, a, b, c, d)
	}
	for _, n := range []int{0, 1, 2, 1000, -1, math.MaxInt, math.MinInt} {
		if r := i.Raw(n); len(r) != 0 {
			t.Errorf("%s: Raw(%d) of a bad one: %v", when, n, r)
		}
		check(t, when, i, bad)
	}
	i.Fail()
	check(t, when, i, bad)
}

// width is a kind of number: how many bytes it has, and how it is put and taken.
type width struct {
	size int
	put  func(*Out, uint64)
	take func(*In) uint64
}

func widths() []width {
	return []width{
		{1, func(o *Out, n uint64) { o.U8(uint8(n)) }, func(i *In) uint64 { return uint64(i.U8()) }},
		{2, func(o *Out, n uint64) { o.U16(uint16(n)) }, func(i *In) uint64 { return uint64(i.U16()) }},
		{4, func(o *Out, n uint64) { o.U32(uint32(n)) }, func(i *In) uint64 { return uint64(i.U32()) }},
		{8, func(o *Out, n uint64) { o.U64(n) }, func(i *In) uint64 { return i.U64() }},
	}
}

// written is the lowest size bytes of n, the highest first.
func written(n uint64, size int) []byte {
	return binary.BigEndian.AppendUint64(nil, n)[8-size:]
}

func TestOutsZeroValueHasNoBytes(t *testing.T) {
	var o Out
	if b := o.Bytes(); len(b) != 0 {
		t.Errorf("%v", b)
	}
	o.Raw(nil)
	o.Raw([]byte{})
	if b := o.Bytes(); len(b) != 0 {
		t.Errorf("behind no bytes: %v", b)
	}
	o.U8(0)
	if b := o.Bytes(); !bytes.Equal(b, []byte{0}) {
		t.Errorf("behind a nought: %v", b)
	}
}

func TestOutWritesTheHighestByteFirst(t *testing.T) {
	for _, c := range []struct {
		put  func(*Out)
		want []byte
	}{
		{func(o *Out) { o.U8(0) }, []byte{0}},
		{func(o *Out) { o.U8(7) }, []byte{7}},
		{func(o *Out) { o.U8(255) }, []byte{255}},
		{func(o *Out) { o.U16(258) }, []byte{1, 2}},
		{func(o *Out) { o.U16(0) }, []byte{0, 0}},
		{func(o *Out) { o.U16(255) }, []byte{0, 255}},
		{func(o *Out) { o.U16(256) }, []byte{1, 0}},
		{func(o *Out) { o.U16(math.MaxUint16) }, []byte{255, 255}},
		{func(o *Out) { o.U32(0) }, []byte{0, 0, 0, 0}},
		{func(o *Out) { o.U32(1) }, []byte{0, 0, 0, 1}},
		{func(o *Out) { o.U32(0x01020304) }, []byte{1, 2, 3, 4}},
		{func(o *Out) { o.U32(math.MaxUint32) }, []byte{255, 255, 255, 255}},
		{func(o *Out) { o.U64(0) }, []byte{0, 0, 0, 0, 0, 0, 0, 0}},
		{func(o *Out) { o.U64(1) }, []byte{0, 0, 0, 0, 0, 0, 0, 1}},
		{func(o *Out) { o.U64(0x0102030405060708) }, []byte{1, 2, 3, 4, 5, 6, 7, 8}},
		{func(o *Out) { o.U64(math.MaxUint64) }, []byte{255, 255, 255, 255, 255, 255, 255, 255}},
		{func(o *Out) { o.Raw([]byte{3, 1, 2}) }, []byte{3, 1, 2}},
	} {
		var o Out
		c.put(&o)
		if got := o.Bytes(); !bytes.Equal(got, c.want) {
			t.Errorf("%v, not %v", got, c.want)
		}
	}
}

func TestOutPutsOneBehindTheOther(t *testing.T) {
	var o Out
	var want []byte
	for _, n := range numbers64() {
		for _, w := range widths() {
			w.put(&o, n)
			want = append(want, written(n, w.size)...)
			o.Raw(counting(w.size % 3))
			want = append(want, counting(w.size%3)...)
			if got := o.Bytes(); !bytes.Equal(got, want) {
				t.Fatalf("behind %d in %d bytes: %v, not %v", n, w.size, got, want)
			}
		}
	}
}

func TestThereAndBack(t *testing.T) {
	for _, n := range numbers64() {
		for _, w := range widths() {
			var o Out
			w.put(&o, n)
			i := New(o.Bytes())
			low := n << (64 - 8*w.size) >> (64 - 8*w.size)
			if got := w.take(i); got != low {
				t.Errorf("%d in %d bytes: %d", low, w.size, got)
			}
			check(t, "there and back", i, told{0, false, true})
		}
	}
}

func TestThereAndBackOneBehindTheOther(t *testing.T) {
	var o Out
	for _, n := range numbers64() {
		for _, w := range widths() {
			w.put(&o, n)
			o.Raw(counting(w.size - 1))
		}
	}
	i := New(o.Bytes())
	left := len(o.Bytes())
	for _, n := range numbers64() {
		for _, w := range widths() {
			check(t, "ahead of a number", i, told{left, false, false})
			low := n << (64 - 8*w.size) >> (64 - 8*w.size)
			if got := w.take(i); got != low {
				t.Fatalf("%d in %d bytes: %d", low, w.size, got)
			}
			if got := i.Raw(w.size - 1); !bytes.Equal(got, counting(w.size-1)) {
				t.Fatalf("behind %d in %d bytes: %v", low, w.size, got)
			}
			left -= 2*w.size - 1
		}
	}
	check(t, "behind all", i, told{0, false, true})
}

func TestNewOfNoBytes(t *testing.T) {
	for _, b := range [][]byte{nil, {}, counting(9)[:0]} {
		i := New(b)
		check(t, "no bytes", i, told{0, false, true})
		if r := i.Raw(0); len(r) != 0 {
			t.Errorf("Raw(0) of no bytes: %v", r)
		}
		check(t, "Raw(0) of no bytes", i, told{0, false, true})
		for _, w := range widths() {
			i := New(b)
			if got := w.take(i); got != 0 {
				t.Errorf("%d bytes of none: %d", w.size, got)
			}
			checkStaysBad(t, "a number of no bytes", i)
		}
		i.Raw(1)
		checkStaysBad(t, "Raw(1) of no bytes", i)
	}
}

func TestJustAsManyBytesAsAreAskedForAndOneFewer(t *testing.T) {
	for _, w := range widths() {
		full := bytes.Repeat([]byte{255}, w.size)
		i := New(full)
		check(t, "ahead of the last byte", i, told{w.size, false, false})
		if got := w.take(i); got != math.MaxUint64>>(64-8*w.size) {
			t.Errorf("%d bytes, just as many: %d", w.size, got)
		}
		check(t, "behind the last byte", i, told{0, false, true})
		if got := w.take(i); got != 0 {
			t.Errorf("%d bytes behind the last: %d", w.size, got)
		}
		checkStaysBad(t, "asked for more behind the last byte", i)

		j := New(full[1:])
		if got := w.take(j); got != 0 {
			t.Errorf("%d bytes of one fewer: %d", w.size, got)
		}
		checkStaysBad(t, "one fewer", j)
	}
}

func TestLeftDoneAndBadByteByByte(t *testing.T) {
	b := counting(5)
	i := New(b)
	for k := range b {
		check(t, "ahead of a byte", i, told{5 - k, false, false})
		check(t, "asked twice", i, told{5 - k, false, false})
		if got := i.U8(); got != b[k] {
			t.Errorf("byte %d: %d, not %d", k, got, b[k])
		}
	}
	check(t, "behind the last byte", i, told{0, false, true})
	i.U8()
	checkStaysBad(t, "one more", i)
}

func TestRaw(t *testing.T) {
	b := counting(6)
	i := New(b)
	for _, c := range []struct{ n, from int }{{0, 0}, {2, 0}, {0, 2}, {1, 2}, {3, 3}, {0, 6}} {
		if got := i.Raw(c.n); !bytes.Equal(got, b[c.from:c.from+c.n]) {
			t.Errorf("Raw(%d) at %d: %v", c.n, c.from, got)
		}
		left := 6 - c.from - c.n
		check(t, "behind Raw", i, told{left, false, left == 0})
	}
	if got := New(b).Raw(6); !bytes.Equal(got, b) {
		t.Errorf("Raw of just as many: %v", got)
	}
}

func TestRawOfTooManyAndBelowNought(t *testing.T) {
	for _, n := range []int{7, 8, 1 << 40, math.MaxInt, -1, -2, -6, -1 << 40, math.MinInt} {
		i := New(counting(6))
		if got := i.Raw(n); len(got) != 0 {
			t.Errorf("Raw(%d) of 6: %v", n, got)
		}
		checkStaysBad(t, "Raw out of bounds", i)

		j := New(counting(6))
		j.U32()
		if got := j.Raw(n); len(got) != 0 {
			t.Errorf("Raw(%d) of 2: %v", n, got)
		}
		checkStaysBad(t, "Raw out of bounds, behind a number", j)
	}
	k := New(counting(6))
	k.U32()
	if got := k.Raw(3); len(got) != 0 {
		t.Errorf("Raw(3) of 2: %v", got)
	}
	checkStaysBad(t, "Raw of one more", k)
}

func TestFail(t *testing.T) {
	i := New(counting(20))
	i.U16()
	check(t, "ahead of Fail", i, told{18, false, false})
	i.Fail()
	checkStaysBad(t, "Fail ahead of the last byte", i)

	j := New(counting(2))
	j.U16()
	check(t, "ahead of Fail", j, told{0, false, true})
	j.Fail()
	checkStaysBad(t, "Fail behind the last byte", j)

	k := New(nil)
	k.Fail()
	checkStaysBad(t, "Fail of no bytes", k)
}

func TestABadOneLeavesAnotherAsItIs(t *testing.T) {
	b := counting(4)
	i, j := New(b), New(b)
	i.Fail()
	check(t, "the other one", j, told{4, false, false})
	if got := j.U32(); got != binary.BigEndian.Uint32(b) {
		t.Errorf("%d", got)
	}
}

func TestNilOut(t *testing.T) {
	var o *Out
	o.U8(1)
	o.U16(2)
	o.U32(3)
	o.U64(4)
	o.Raw(counting(3))
	o.Raw(nil)
	if b := o.Bytes(); len(b) != 0 {
		t.Errorf("%v", b)
	}
}

func TestNilIn(t *testing.T) {
	var i *In
	for range 2 {
		if a, b, c, d := i.U8(), i.U16(), i.U32(), i.U64(); a != 0 || b != 0 || c != 0 || d != 0 {
			t.Errorf("taken: %d %d %d %d", a, b, c, d)
		}
		for _, n := range []int{0, 1, 1000, -1, math.MaxInt, math.MinInt} {
			if r := i.Raw(n); len(r) != 0 {
				t.Errorf("Raw(%d): %v", n, r)
			}
		}
		check(t, "a nil In", i, told{})
		i.Fail()
	}
}

func TestOutLeavesWhatIsPutAndDoesntKeepIt(t *testing.T) {
	whole := counting(8)
	part := whole[:3]
	var o Out
	o.Raw(part)
	o.U64(math.MaxUint64)
	o.Raw(part)
	o.U8(9)
	if !bytes.Equal(whole, counting(8)) {
		t.Errorf("what was put, or its spare room, is now %v", whole)
	}
	before := o.Bytes()
	spoil(part)
	if got := o.Bytes(); !bytes.Equal(got, before) {
		t.Errorf("%v, and then %v", before, got)
	}
}

func TestOutsAnswersAreNewMemory(t *testing.T) {
	// At each length, for the room that an Out has beyond it differs.
	for n := range 70 {
		var o Out
		for _, b := range counting(n) {
			o.U8(b)
		}
		first, second := o.Bytes(), o.Bytes()
		spoil(first)
		if !bytes.Equal(second, counting(n)) {
			t.Errorf("%d bytes: another answer is now %v", n, second)
		}
		if got := o.Bytes(); !bytes.Equal(got, counting(n)) {
			t.Errorf("%d bytes: the Out now has %v", n, got)
		}
		room := second[:cap(second)]
		before := bytes.Clone(room)
		o.U64(math.MaxUint64)
		o.Raw(counting(5))
		if !bytes.Equal(room, before) {
			t.Errorf("%d bytes: an answer changed when more was put: %v", n, room)
		}
	}
}

func TestInLeavesItsBytesAndDoesntKeepThem(t *testing.T) {
	whole := counting(12)
	part := whole[:7]
	i := New(part)
	i.U8()
	i.Raw(2)
	spoil(i.Raw(1))
	if !bytes.Equal(whole, counting(12)) {
		t.Errorf("what was handed in, or its spare room, is now %v", whole)
	}
	spoil(part)
	if got := i.Raw(3); !bytes.Equal(got, counting(7)[4:]) {
		t.Errorf("the In changed with the caller's bytes: %v", got)
	}
	check(t, "all of the part", i, told{0, false, true})
}

func TestInsAnswersAreNewMemory(t *testing.T) {
	whole := counting(9)
	i := New(whole)
	first := i.Raw(3)
	second := i.Raw(3)
	spoil(first)
	if !bytes.Equal(second, whole[3:6]) {
		t.Errorf("another answer is now %v", second)
	}
	spoil(second)
	spoil(i.Raw(0))
	if got := i.Raw(3); !bytes.Equal(got, counting(9)[6:]) {
		t.Errorf("what was left is now %v", got)
	}
	if !bytes.Equal(whole, counting(9)) {
		t.Errorf("what was handed in is now %v", whole)
	}
}

// FuzzInAgainstBytes takes by the steps that are handed in, and holds all
// that is answered against a slice and a flag.
func FuzzInAgainstBytes(f *testing.F) {
	f.Add([]byte{}, []byte{0, 1, 2, 3})
	f.Add(counting(17), []byte{0, 1, 2, 3, 12, 0, 5})
	f.Add(counting(9), []byte{1, 4, 3, 0, 0})
	f.Add(counting(40), []byte{3, 2, 36, 1, 0, 5, 3, 3})
	f.Fuzz(func(t *testing.T, b, steps []byte) {
		i := New(b)
		rest, bad := bytes.Clone(b), false
		for _, s := range steps {
			n := int(s) - 4 // from 4 on a step is Raw of as many, or of -1
			if s == 5 {
				n = -1
			}
			if s < 4 {
				n = widths()[s].size
			}
			var want []byte
			switch {
			case bad:
			case n < 0 || n > len(rest):
				rest, bad = nil, true
			default:
				want, rest = rest[:n], rest[n:]
			}
			if s < 4 {
				number := binary.BigEndian.Uint64(append(make([]byte, 8-len(want)), want...))
				if got := widths()[s].take(i); got != number {
					t.Fatalf("%d bytes: %d, not %d", n, got, number)
				}
			} else if got := i.Raw(n); !bytes.Equal(got, want) {
				t.Fatalf("Raw(%d): %v, not %v", n, got, want)
			}
			check(t, "behind a step", i, told{len(rest), bad, !bad && len(rest) == 0})
		}
	})
}
