package store

import (
	"math"
	"math/rand"
	"slices"
	"testing"

	"bailiff/api"
)

// The limits as the document writes them, so that a test doesn't take them
// from where the program does.
const (
	topClasses = 129
	topRoom    = 4096
	topFrame   = 9216
)

// Numbers that are neither a class nor a place in one, however many there are,
// among them such as a shorter number takes for one.
var never = []int{
	math.MinInt, math.MinInt + 1, -1 << 62, -1<<32 + 1, -1 << 32, -1 << 31, -65536, -4096, -256, -255, -129, -3, -2, -1,
	4097, 8192, 65536, 65537, 1<<31 - 1, 1 << 31, 1<<31 + 1, 1 << 32, 1<<32 + 1, 1 << 62, math.MaxInt - 1, math.MaxInt,
}

// Lengths that no packet may have.
var wrongLens = []int{
	math.MinInt, math.MinInt + 1, -1 << 62, -1 << 32, -1<<32 + 1, -65536, -65535, -9217, -9216, -256, -255, -2, -1, 0,
	9217, 9218, 18432, 65535, 65536, 65537, 1 << 31, 1 << 32, 1<<32 + 1, 1 << 62, math.MaxInt - 1, math.MaxInt,
}

// packet is one of that length, all of which tells it from those of other
// numbers.
func packet(seq int64, length int) api.Packet {
	low, high := byte(seq), byte(seq>>8)
	return api.Packet{
		Seq: seq,
		Flow: api.Flow{
			V6:    seq%2 == 1,
			Proto: low + 1,
			Src:   [16]byte{low, high, 3, 4, 5, 6, 7, 8, 9, 10, 11, 12, 13, 14, 15, low},
			Dst:   [16]byte{16, high, low, 19, 20, 21, 22, 23, 24, 25, 26, 27, 28, 29, 30, high},
			SPort: uint16(seq), DPort: uint16(seq) + 0x8001,
		},
		Prefix: api.Prefix{V6: seq%2 == 1, Addr: [7]byte{low, high, 3, 4, 5, high, low}},
		Len:    length,
	}
}

// waiting is a packet that waits, and its class.
type waiting struct {
	class  int
	packet api.Packet
}

// plain is a plain second way: all that wait, of whatever class, as they came.
type plain struct {
	classes, room int
	waits         []waiting
}

func (p *plain) push(class int, x api.Packet) bool {
	if class < 0 || class >= p.classes || x.Len < 1 || x.Len > topFrame || len(p.waits) >= p.room {
		return false
	}
	p.waits = append(p.waits, waiting{class, x})
	return true
}

// where is the place of the class's k-th packet among all of them; -1, if
// there is none.
func (p *plain) where(class, k int) int {
	for i, w := range p.waits {
		if w.class != class {
			continue
		}
		if k == 0 {
			return i
		}
		k--
	}
	return -1
}

func (p *plain) at(class, k int) (api.Packet, bool) {
	i := p.where(class, k)
	if i < 0 {
		return api.Packet{}, false
	}
	return p.waits[i].packet, true
}

func (p *plain) cut(class, k int) (api.Packet, bool) {
	x, ok := p.at(class, k)
	if ok {
		i := p.where(class, k)
		p.waits = slices.Delete(p.waits, i, i+1)
	}
	return x, ok
}

// packets is all of the class's.
func (p *plain) packets(class int) []api.Packet {
	var packets []api.Packet
	for _, w := range p.waits {
		if w.class == class {
			packets = append(packets, w.packet)
		}
	}
	return packets
}

// pair is a store, and a plain second one. Each step is done to both, and all
// that the store says of itself is held against the other behind it.
type pair struct {
	t     *testing.T
	store *Store
	plain plain
	next  int64
}

func newPair(t *testing.T, classes, room int) *pair {
	t.Helper()
	p := &pair{t: t, store: made(t, classes, room), plain: plain{classes: classes, room: room}, next: 1}
	p.check()
	return p
}

// made is a store that New must not refuse.
func made(t *testing.T, classes, room int) *Store {
	t.Helper()
	s, e := New(classes, room)
	if s == nil || e != api.OK {
		t.Fatalf("New(%d, %d): %v, %v", classes, room, s, e)
	}
	return s
}

// push puts a packet that the store never saw.
func (p *pair) push(class, length int) bool {
	p.t.Helper()
	x := packet(p.next, length)
	p.next++
	return p.pushThis(class, x)
}

func (p *pair) pushThis(class int, x api.Packet) bool {
	p.t.Helper()
	want := p.plain.push(class, x)
	if got := p.store.Push(class, x); got != want {
		p.t.Fatalf("Push(%d, %v) with %v: %v", class, x, p.plain, got)
	}
	p.check()
	return want
}

func (p *pair) pop(class int) (api.Packet, bool) {
	p.t.Helper()
	want, there := p.plain.cut(class, 0)
	if got, ok := p.store.Pop(class); got != want || ok != there {
		p.t.Fatalf("Pop(%d): %v, %v, not %v, %v", class, got, ok, want, there)
	}
	p.check()
	return want, there
}

func (p *pair) cut(class, k int) (api.Packet, bool) {
	p.t.Helper()
	want, there := p.plain.cut(class, k)
	if got, ok := p.store.Cut(class, k); got != want || ok != there {
		p.t.Fatalf("Cut(%d, %d): %v, %v, not %v, %v", class, k, got, ok, want, there)
	}
	p.check()
	return want, there
}

// check asks for everything twice, as to be asked must change nothing; of the
// classes that there are, and of one beyond either end.
func (p *pair) check() {
	p.t.Helper()
	for range 2 {
		if got, want := p.store.Free(), p.plain.room-len(p.plain.waits); got != want {
			p.t.Fatalf("Free: %d, not %d", got, want)
		}
		for class := -1; class <= p.plain.classes; class++ {
			p.class(class)
		}
	}
}

// class holds all that is said of one class against the plain one.
func (p *pair) class(class int) {
	p.t.Helper()
	packets := p.plain.packets(class)
	p.sums(class, packets)
	flows := p.store.Flows(class)
	if len(flows) != len(packets) {
		p.t.Fatalf("Flows(%d): %v, not of %v", class, flows, packets)
	}
	for k, want := range packets {
		if flows[k] != want.Flow {
			p.t.Fatalf("Flows(%d): %v, not of %v", class, flows, packets)
		}
		if got, ok := p.store.At(class, k); got != want || !ok {
			p.t.Fatalf("At(%d, %d): %v, %v, not %v", class, k, got, ok, want)
		}
	}
	for _, k := range []int{-1, len(packets), len(packets) + 1} {
		p.none(class, k)
	}
}

// sums holds the class's three numbers against its packets.
func (p *pair) sums(class int, packets []api.Packet) {
	p.t.Helper()
	var bytes int64
	for _, x := range packets {
		bytes += int64(x.Len)
	}
	head := 0
	if len(packets) > 0 {
		head = packets[0].Len
	}
	s := p.store
	if s.Len(class) != len(packets) || s.Bytes(class) != bytes || s.Head(class) != head {
		p.t.Fatalf("class %d: Len %d, Bytes %d, Head %d, not %d, %d, %d", class, s.Len(class), s.Bytes(class), s.Head(class), len(packets), bytes, head)
	}
}

// none fails if the class has a k-th packet.
func (p *pair) none(class, k int) {
	p.t.Helper()
	if got, ok := p.store.At(class, k); got != (api.Packet{}) || ok {
		p.t.Fatalf("At(%d, %d): %v, %v", class, k, got, ok)
	}
}

// says fails unless that is what the store says of a class, and of its room.
func (p *pair) says(class, length int, bytes int64, head, free int) {
	p.t.Helper()
	s := p.store
	if s.Len(class) != length || s.Bytes(class) != bytes || s.Head(class) != head || s.Free() != free {
		p.t.Fatalf("class %d: Len %d, Bytes %d, Head %d, Free %d, not %d, %d, %d, %d",
			class, s.Len(class), s.Bytes(class), s.Head(class), s.Free(), length, bytes, head, free)
	}
}

// refused does all that must be refused, whatever waits.
func (p *pair) refused() {
	p.t.Helper()
	for _, class := range append([]int{p.plain.classes, p.plain.classes + 1}, never...) {
		p.no(class)
	}
	for class := range p.plain.classes {
		for _, length := range wrongLens {
			x := packet(-7, length)
			if p.store.Push(class, x) {
				p.t.Fatalf("Push(%d) of %d bytes", class, length)
			}
		}
		n := len(p.plain.packets(class))
		for _, k := range append([]int{n, n + 1, -n, -n - 1}, never...) {
			if k >= 0 && k < n {
				continue
			}
			p.none(class, k)
			if got, ok := p.store.Cut(class, k); got != (api.Packet{}) || ok {
				p.t.Fatalf("Cut(%d, %d): %v, %v", class, k, got, ok)
			}
		}
	}
	p.check()
}

// no asks everything of a class that there is none of.
func (p *pair) no(class int) {
	p.t.Helper()
	s := p.store
	for _, length := range []int{1, 5, topFrame, 0} {
		if s.Push(class, packet(-7, length)) {
			p.t.Fatalf("Push(%d) of %d bytes", class, length)
		}
	}
	if got, ok := s.Pop(class); got != (api.Packet{}) || ok {
		p.t.Fatalf("Pop(%d): %v, %v", class, got, ok)
	}
	for _, k := range append([]int{0, 1, 2}, never...) {
		p.none(class, k)
		if got, ok := s.Cut(class, k); got != (api.Packet{}) || ok {
			p.t.Fatalf("Cut(%d, %d): %v, %v", class, k, got, ok)
		}
	}
	if s.Head(class) != 0 || s.Len(class) != 0 || s.Bytes(class) != 0 || len(s.Flows(class)) != 0 {
		p.t.Fatalf("class %d: Head %d, Len %d, Bytes %d, Flows %v", class, s.Head(class), s.Len(class), s.Bytes(class), s.Flows(class))
	}
}

// fill pushes into one class till there is no room, and once more into each.
func (p *pair) fill(class int) {
	p.t.Helper()
	for p.push(class, int(p.next)%100+1) {
	}
	for other := range p.plain.classes {
		if p.push(other, 1) {
			p.t.Fatalf("Push(%d) without room", other)
		}
	}
}

// clear pops all classes till they are empty, and once more.
func (p *pair) clear() {
	p.t.Helper()
	for class := range p.plain.classes {
		for {
			if _, ok := p.pop(class); !ok {
				break
			}
		}
		p.says(class, 0, 0, 0, p.store.Free())
	}
	if got := p.store.Free(); got != p.plain.room {
		p.t.Fatalf("Free: %d, not %d", got, p.plain.room)
	}
}

// drawnLen is a packet's length, often one at an edge, and sometimes a wrong
// one.
func drawnLen(draw *rand.Rand) int {
	switch draw.Intn(8) {
	case 0:
		return []int{0, topFrame + 1}[draw.Intn(2)]
	case 1:
		return []int{1, 2, topFrame - 1, topFrame}[draw.Intn(4)]
	case 2:
		return wrongLens[draw.Intn(len(wrongLens))]
	}
	return draw.Intn(topFrame) + 1
}
