package store

import (
	"math"
	"math/rand"
	"slices"
	"strconv"
	"testing"

	"bailiff/api"
)

func TestTheChaptersExample(t *testing.T) {
	for _, classes := range []int{1, 2, topClasses} {
		for class := range classes {
			s := made(t, classes, 1)
			p, q := packet(1, 10), packet(2, 20)
			if !s.Push(class, p) || s.Free() != 0 || s.Push(class, q) || s.Len(class) != 1 || s.Bytes(class) != 10 {
				t.Fatal("Push")
			}
			if got, ok := s.Pop(class); got != p || !ok {
				t.Fatalf("Pop: %v, %v", got, ok)
			}
			if s.Free() != 1 || s.Len(class) != 0 || s.Bytes(class) != 0 {
				t.Fatalf("Free: %d", s.Free())
			}
		}
	}
}

func TestNewAtItsEdges(t *testing.T) {
	for _, classes := range []int{1, 2, 3, 64, 65, 127, 128, 129} {
		for _, room := range []int{1, 2, 3, 128, 129, 130, 4095, 4096} {
			s := made(t, classes, room)
			if s.Free() != room {
				t.Fatalf("New(%d, %d): Free: %d", classes, room, s.Free())
			}
			if s.Push(-1, packet(1, 1)) || s.Push(classes, packet(1, 1)) || !s.Push(0, packet(1, 1)) || s.Push(classes-1, packet(2, 2)) != (room > 1) {
				t.Fatalf("New(%d, %d): Push", classes, room)
			}
		}
	}
}

func TestNewThatIsRefused(t *testing.T) {
	wrongClasses := []int{0, 130, 131, 256, 257, 258, 4096}
	wrongRooms := []int{0, 4097, 4098, 8192}
	for _, n := range never {
		wrongClasses = append(wrongClasses, n)
		wrongRooms = append(wrongRooms, n)
	}
	refuse := func(classes, room int) {
		t.Helper()
		if s, e := New(classes, room); s != nil || e != api.ErrArg {
			t.Fatalf("New(%d, %d): %v, %v", classes, room, s, e)
		}
	}
	for _, classes := range wrongClasses {
		for _, room := range append([]int{1, 2, 129, 4096}, wrongRooms...) {
			refuse(classes, room)
		}
	}
	for _, room := range wrongRooms {
		for _, classes := range []int{1, 2, 128, 129} {
			refuse(classes, room)
		}
	}
	if 2*api.MaxBuckets+1 != topClasses || api.MaxRoom != topRoom || api.MaxFrame != topFrame {
		t.Fatal(api.MaxBuckets, api.MaxRoom, api.MaxFrame)
	}
}

func TestANewOneHasNoPackets(t *testing.T) {
	for _, n := range [][2]int{{1, 1}, {1, 4}, {4, 1}, {3, 3}, {129, 2}} {
		p := newPair(t, n[0], n[1])
		for class := range n[0] {
			p.says(class, 0, 0, 0, n[1])
			p.pop(class)
			p.cut(class, 0)
		}
		p.refused()
		p.fill(n[0] - 1)
		p.clear()
	}
}

// Each answer as the chapter's words have it, worked out by hand.
func TestByHand(t *testing.T) {
	p := newPair(t, 3, 5)
	gone := func(x api.Packet, ok bool, seq int64, length int) {
		t.Helper()
		if want := packet(seq, length); x != want || !ok {
			t.Fatalf("%v, %v, not %v", x, ok, want)
		}
	}
	p.push(1, 100)
	p.push(2, 9216)
	p.push(1, 1)
	p.push(1, 40)
	p.says(0, 0, 0, 0, 1)
	p.says(1, 3, 141, 100, 1)
	p.says(2, 1, 9216, 9216, 1)
	x, ok := p.cut(1, 1)
	gone(x, ok, 3, 1)
	p.says(1, 2, 140, 100, 2)
	p.push(0, 9216)
	p.push(2, 7)
	p.says(0, 1, 9216, 9216, 0)
	p.says(2, 2, 9223, 9216, 0)
	p.push(0, 3)
	x, ok = p.pop(1)
	gone(x, ok, 1, 100)
	p.says(1, 1, 40, 40, 1)
	x, ok = p.cut(2, 0)
	gone(x, ok, 2, 9216)
	p.says(2, 1, 7, 7, 2)
	x, ok = p.cut(1, 0)
	gone(x, ok, 4, 40)
	p.says(1, 0, 0, 0, 3)
	x, ok = p.pop(0)
	gone(x, ok, 5, 9216)
	x, ok = p.pop(2)
	gone(x, ok, 6, 7)
	for class := range 3 {
		p.says(class, 0, 0, 0, 5)
	}
}

func TestLensThatMayBe(t *testing.T) {
	p := newPair(t, 2, 8)
	var bytes int64
	for k, length := range []int{1, 2, 255, 256, 1500, 9214, 9215, 9216} {
		if !p.push(1, length) {
			t.Fatal(length)
		}
		bytes += int64(length)
		p.says(1, k+1, bytes, 1, 7-k)
	}
	for _, length := range []int{1, 2, 255, 256, 1500, 9214, 9215, 9216} {
		if p.store.Head(1) != length {
			t.Fatalf("%d, not %d", p.store.Head(1), length)
		}
		if x, _ := p.pop(1); x.Len != length {
			t.Fatal(x)
		}
	}
}

func TestLensThatMayNotBe(t *testing.T) {
	p := newPair(t, 2, 3)
	for range 3 {
		for _, length := range wrongLens {
			for class := -1; class <= 2; class++ {
				if p.push(class, length) {
					t.Fatal(length)
				}
			}
		}
		p.push(1, 9)
	}
	p.says(1, 3, 27, 9, 0)
}

// The packet itself is as whoever hands it in makes it: but its Len, nothing
// is asked of it, and nothing of it is changed.
func TestWhateverPackets(t *testing.T) {
	full := packet(0, 0)
	for k := range full.Flow.Src {
		full.Flow.Src[k], full.Flow.Dst[k] = 0xff, 0xff
	}
	p := newPair(t, 2, 9)
	for _, x := range []api.Packet{
		{Len: 1},
		{Len: 1},
		{Seq: -1, Len: 2},
		{Seq: math.MinInt64, Flow: api.Flow{V6: true}, Len: 3},
		{Seq: math.MaxInt64, Flow: full.Flow, Prefix: api.Prefix{V6: true}, Len: 4},
		{Flow: api.Flow{Proto: 255, SPort: 65535, DPort: 65535}, Prefix: api.Prefix{Addr: [7]byte{1, 2, 3, 4, 5, 6, 7}}, Len: 5},
		packet(3, 6),
		packet(3, 6),
	} {
		if !p.pushThis(1, x) {
			t.Fatal(x)
		}
	}
	p.cut(1, 4)
	p.clear()
}

func TestPushIntoNoClass(t *testing.T) {
	for _, classes := range []int{1, 2, 3, 128, 129} {
		for _, filled := range []bool{false, true} {
			p := newPair(t, classes, 3)
			p.push(classes-1, 70)
			if filled {
				p.fill(0)
			}
			p.refused()
		}
	}
}

func TestPushWithoutRoom(t *testing.T) {
	for room := 1; room <= 4; room++ {
		p := newPair(t, 3, room)
		for class := range 3 {
			p.fill(class)
			p.refused()
			p.pop(class)
			p.fill((class + 1) % 3)
			p.refused()
			p.clear()
		}
	}
}

// A packet that is refused leaves all as it is, and so is not there later.
func TestWhatIsRefusedChangesNothing(t *testing.T) {
	for _, lens := range [][][]int{{{}, {}}, {{5}, {}}, {{}, {1, 2}}, {{6, 7}, {8}}, {{1, 2, 3, 4}, {}}, {{}, {9, 9, 9, 9}}} {
		p := newPair(t, 2, 4)
		for class := range lens {
			for _, length := range lens[class] {
				p.push(class, length)
			}
		}
		was := slices.Clone(p.plain.waits)
		p.refused()
		p.refused()
		if !slices.Equal(was, p.plain.waits) {
			t.Fatal(p.plain)
		}
		p.fill(1)
		p.refused()
		p.clear()
	}
}

func TestOfAClassWithoutPackets(t *testing.T) {
	p := newPair(t, 3, 4)
	none := func(class int) {
		t.Helper()
		if x, ok := p.pop(class); x != (api.Packet{}) || ok {
			t.Fatalf("Pop(%d): %v, %v", class, x, ok)
		}
		for _, k := range append([]int{0, 1, 2}, never...) {
			if x, ok := p.cut(class, k); x != (api.Packet{}) || ok {
				t.Fatalf("Cut(%d, %d): %v, %v", class, k, x, ok)
			}
			p.none(class, k)
		}
		p.says(class, 0, 0, 0, p.store.Free())
	}
	for class := range 3 {
		none(class)
	}
	p.push(1, 50)
	none(0)
	none(2)
	p.fill(1)
	none(0)
	none(2)
	p.clear()
	for class := range 3 {
		none(class)
	}
}

// Whichever packet of however many is asked for, or cut.
func TestAtAndCutOfEach(t *testing.T) {
	for n := 1; n <= 6; n++ {
		for k := range n {
			p := newPair(t, 3, 8)
			p.push(0, 1000)
			for j := range n {
				p.push(1, 10*j+1)
			}
			p.push(2, 2000)
			want := packet(int64(k)+2, 10*k+1)
			if x, ok := p.store.At(1, k); x != want || !ok {
				t.Fatalf("At(1, %d): %v, %v", k, x, ok)
			}
			if x, ok := p.cut(1, k); x != want || !ok {
				t.Fatalf("Cut(1, %d): %v, %v", k, x, ok)
			}
			p.says(0, 1, 1000, 1000, 7-n)
			p.says(2, 1, 2000, 2000, 7-n)
			p.push(1, 77)
			p.refused()
			p.clear()
		}
	}
}

func TestAtAndCutBesideAll(t *testing.T) {
	for n := range 4 {
		p := newPair(t, 2, 4)
		for range n {
			p.push(0, 30)
		}
		for _, k := range []int{-1, n, n + 1, math.MinInt, math.MaxInt} {
			p.none(0, k)
			if x, ok := p.cut(0, k); x != (api.Packet{}) || ok {
				t.Fatalf("Cut(0, %d) of %d: %v, %v", k, n, x, ok)
			}
		}
		p.says(0, n, int64(30*n), min(30*n, 30), 4-n)
	}
}

// Whatever two packets are cut, in whatever order.
func TestTwoAreCut(t *testing.T) {
	for n := 2; n <= 5; n++ {
		for k := range n {
			for j := range n {
				p := newPair(t, 2, n)
				p.fill(0)
				p.cut(0, k)
				p.cut(0, j)
				p.fill(1)
				p.clear()
				p.fill(0)
				p.clear()
			}
		}
	}
}

// Of all orders in which packets leave, each class keeps its own.
func TestEachClassKeepsItsOrder(t *testing.T) {
	p := newPair(t, 3, 9)
	for k := range 9 {
		p.push(k%3, k+1)
	}
	for _, class := range []int{2, 0, 1, 1, 0, 2, 0, 1, 2} {
		p.pop(class)
	}
	p.clear()
}

func TestRoomIsUsedAgain(t *testing.T) {
	for room := 1; room <= 3; room++ {
		p := newPair(t, 4, room)
		for step := range 200 {
			p.fill(step % 4)
			if step%3 == 0 {
				p.cut(step%4, room-1)
			}
			p.clear()
		}
	}
}

// One comes for each that goes, for long, without any class ever being empty.
func TestRoomIsUsedAgainForLong(t *testing.T) {
	s := made(t, 2, 5)
	for seq := range int64(4) {
		s.Push(int(seq%2), packet(seq, 9))
	}
	for seq := int64(4); seq < 300000; seq++ {
		class := int(seq % 2)
		if !s.Push(class, packet(seq, 9)) || s.Free() != 0 {
			t.Fatalf("Push of %d", seq)
		}
		if x, ok := s.Cut(class, 0); x.Seq != seq-4 || !ok || s.Bytes(class) != 18 || s.Len(class) != 2 || s.Free() != 1 {
			t.Fatalf("Cut: %v, %v, not %d; Bytes %d", x, ok, seq-4, s.Bytes(class))
		}
	}
}

func TestTheMostRoom(t *testing.T) {
	s := made(t, topClasses, topRoom)
	for _, class := range []int{0, 64, topClasses - 1} {
		for seq := range int64(topRoom) {
			if !s.Push(class, packet(seq, topFrame)) || s.Free() != topRoom-1-int(seq) {
				t.Fatalf("Push of %d", seq)
			}
		}
		if s.Push(class, packet(0, 1)) || s.Push(0, packet(0, 1)) || s.Free() != 0 || s.Len(class) != topRoom || s.Bytes(class) != 37748736 {
			t.Fatalf("Len %d, Bytes %d", s.Len(class), s.Bytes(class))
		}
		flows := s.Flows(class)
		for seq := range int64(topRoom) {
			if flows[seq] != packet(seq, 1).Flow {
				t.Fatalf("Flows: %v of %d", flows[seq], seq)
			}
		}
		if len(flows) != topRoom {
			t.Fatalf("%d Flows", len(flows))
		}
		for _, k := range []int{topRoom - 1, 2000, 0} {
			if x, ok := s.Cut(class, k); x != packet(int64(k), topFrame) || !ok {
				t.Fatalf("Cut(%d, %d): %v, %v", class, k, x, ok)
			}
		}
		for n := topRoom - 3; n > 0; n-- {
			if s.Len(class) != n || s.Bytes(class) != int64(topFrame)*int64(n) || s.Free() != topRoom-n {
				t.Fatalf("Len %d, Bytes %d, not of %d", s.Len(class), s.Bytes(class), n)
			}
			s.Pop(class)
		}
		if s.Bytes(class) != 0 || s.Head(class) != 0 || s.Free() != topRoom {
			t.Fatalf("Bytes %d, Free %d", s.Bytes(class), s.Free())
		}
	}
}

func TestFlowsByHand(t *testing.T) {
	s := made(t, 2, 4)
	check := func(class int, ports ...uint16) {
		t.Helper()
		var got []uint16
		for _, f := range s.Flows(class) {
			got = append(got, f.SPort)
		}
		if !slices.Equal(got, ports) {
			t.Fatalf("%d, not %d", got, ports)
		}
	}
	push := func(class int, port uint16) {
		t.Helper()
		if !s.Push(class, api.Packet{Flow: api.Flow{SPort: port}, Len: 5}) {
			t.Fatal(port)
		}
	}
	check(0)
	push(0, 30)
	push(1, 10)
	push(0, 20)
	push(0, 30)
	check(0, 30, 20, 30)
	check(1, 10)
	s.Cut(0, 1)
	check(0, 30, 30)
	push(0, 7)
	check(0, 30, 30, 7)
	s.Pop(0)
	check(0, 30, 7)
	s.Pop(1)
	check(1)
	check(2)
	check(-1)
}

// Who has a list of flows may do with it what he likes, in its spare room too,
// and finds in it what was there, whatever is done later.
func TestFlowsAreNewMemory(t *testing.T) {
	p := newPair(t, 2, 6)
	for k := range 4 {
		p.push(0, k+1)
	}
	first, second := p.store.Flows(0), p.store.Flows(0)
	for k := range first {
		first[k] = api.Flow{SPort: 9999}
	}
	for range 5 {
		first = append(first, api.Flow{SPort: 9999})
	}
	spare := p.store.Flows(0)
	spare = spare[:cap(spare)]
	for k := range spare {
		spare[k] = api.Flow{DPort: 8888}
	}
	none := p.store.Flows(1)
	none = none[:cap(none)]
	for k := range none {
		none[k] = api.Flow{DPort: 8888}
	}
	p.check()
	p.clear()
	p.fill(0)
	for k := range 4 {
		if second[k] != packet(int64(k)+1, 1).Flow {
			t.Fatalf("%v", second)
		}
	}
	if len(second) != 4 {
		t.Fatal(len(second))
	}
}

// Of packets that have left, nothing is told any more, whatever comes where
// they were.
func TestWhatLeftIsGone(t *testing.T) {
	p := newPair(t, 2, 2)
	p.push(0, 9000)
	p.push(0, 8000)
	p.clear()
	p.push(1, 1)
	p.says(1, 1, 1, 1, 1)
	p.says(0, 0, 0, 0, 1)
	p.none(0, 0)
	p.none(1, 1)
}

// checkZero asks all there is of a store that can't have anything.
func checkZero(t *testing.T, s *Store) {
	t.Helper()
	numbers := append([]int{0, 1, 2, 128, 129, 4095, 4096}, never...)
	for _, class := range numbers {
		for _, length := range append([]int{1, 9216}, wrongLens...) {
			if s.Push(class, packet(1, length)) {
				t.Fatalf("Push(%d) of %d bytes", class, length)
			}
		}
		if x, ok := s.Pop(class); x != (api.Packet{}) || ok {
			t.Fatalf("Pop(%d): %v, %v", class, x, ok)
		}
		for _, k := range numbers {
			if x, ok := s.At(class, k); x != (api.Packet{}) || ok {
				t.Fatalf("At(%d, %d): %v, %v", class, k, x, ok)
			}
			if x, ok := s.Cut(class, k); x != (api.Packet{}) || ok {
				t.Fatalf("Cut(%d, %d): %v, %v", class, k, x, ok)
			}
		}
		if s.Head(class) != 0 || s.Len(class) != 0 || s.Bytes(class) != 0 || len(s.Flows(class)) != 0 {
			t.Fatalf("class %d: Head %d, Len %d, Bytes %d, Flows %v", class, s.Head(class), s.Len(class), s.Bytes(class), s.Flows(class))
		}
	}
	if s.Free() != 0 {
		t.Fatalf("Free: %d", s.Free())
	}
}

func TestOfNone(t *testing.T) {
	checkZero(t, nil)
}

func TestMadeByHand(t *testing.T) {
	checkZero(t, &Store{})
	checkZero(t, new(Store))
	s := made(t, 2, 3)
	for step := range 60 {
		copied := *s
		for _, c := range []*Store{s, &copied} {
			c.Push(step%3, packet(int64(step), step))
			c.Cut(step%2, step%4)
			copied.Pop(1)
			c.At(0, step%3)
			s.Flows(step % 2)
			c.Head(0)
			c.Bytes(1)
			c.Free()
		}
	}
}

func TestTwoDontDisturbEachOther(t *testing.T) {
	p, q := newPair(t, 2, 3), newPair(t, 2, 3)
	p.fill(0)
	q.check()
	q.fill(1)
	p.cut(0, 1)
	q.check()
	q.clear()
	p.check()
	p.clear()
}

// No two of them share anything, so that each may go its own way at the same
// time.
func TestManyAtOnce(t *testing.T) {
	for seed := range int64(4) {
		t.Run(strconv.FormatInt(seed, 10), func(t *testing.T) {
			t.Parallel()
			steps(newPair(t, 3, 5), rand.New(rand.NewSource(seed)), 500)
		})
	}
}

// The places are made once: but for lists that are handed out, no step makes
// more.
func TestNoStepMakesMemory(t *testing.T) {
	s := made(t, 3, 50)
	pieces := testing.AllocsPerRun(10, func() {
		for seq := range int64(60) {
			s.Push(int(seq)%3, packet(seq, 9))
		}
		for range 10 {
			s.Cut(1, 3)
			s.Pop(0)
			s.At(2, 4)
			s.Head(2)
			s.Bytes(2)
		}
		for class := range 3 {
			for range s.Len(class) {
				s.Pop(class)
			}
		}
	})
	if pieces != 0 {
		t.Errorf("%v pieces of memory", pieces)
	}
}

func TestEveryShortLineOfSteps(t *testing.T) {
	does := []func(*pair){
		func(p *pair) { p.push(0, 1) },
		func(p *pair) { p.push(0, topFrame) },
		func(p *pair) { p.push(1, 20) },
		func(p *pair) { p.push(1, 0) },
		func(p *pair) { p.pop(0) },
		func(p *pair) { p.pop(1) },
		func(p *pair) { p.cut(0, 1) },
		func(p *pair) { p.cut(1, 1) },
	}
	const depth = 5
	all := 1
	for range depth {
		all *= len(does)
	}
	for room := 1; room <= 3; room++ {
		for line := range all {
			p := newPair(t, 2, room)
			for range depth {
				does[line%len(does)](p)
				line /= len(does)
			}
		}
	}
}

// steps does so many drawn steps, and then whatever empties the store.
func steps(p *pair, draw *rand.Rand, n int) {
	p.t.Helper()
	pushes := 4
	for range n {
		if draw.Intn(30) == 0 {
			pushes = draw.Intn(8)
		}
		class := draw.Intn(p.plain.classes+2) - 1
		does := draw.Intn(8)
		switch {
		case does < pushes:
			p.push(class, drawnLen(draw))
		case does%2 == 0:
			p.pop(class)
		default:
			p.cut(class, draw.Intn(p.plain.room+2)-1)
		}
	}
	p.clear()
}

func TestDrawnSteps(t *testing.T) {
	for _, n := range [][2]int{{1, 1}, {1, 7}, {7, 1}, {2, 5}, {3, 20}, {9, 9}, {129, 3}, {5, 60}} {
		draw := rand.New(rand.NewSource(int64(n[0]*100 + n[1])))
		p := newPair(t, n[0], n[1])
		for range 3 {
			steps(p, draw, 600)
		}
	}
}
