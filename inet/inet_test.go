package inet

import (
	"bytes"
	"encoding/hex"
	"math/rand"
	"reflect"
	"slices"
	"sync"
	"testing"

	"bailiff/api"
)

// bodySizes are bodies of no byte, one, and many, odd ones too.
var bodySizes = []int{0, 1, 2, 3, 4, 8, 255, 256, 1480}

// counted is a body of n bytes that differ from their neighbours.
func counted(n int) []byte {
	body := make([]byte, n)
	for k := range body {
		body[k] = byte(k*7 + 0xa1)
	}
	return body
}

// made is a packet with a right sum, whose head has so many words. No two
// bytes of its addresses are the same, nor are they those of its options.
func made(words int, body []byte) []byte {
	all := 4*words + len(body)
	b := []byte{
		byte(0x40 + words), 0x1e, byte(all >> 8), byte(all),
		0xbe, 0xef, 0x40, 0, 63, 17, 0, 0,
		10, 200, 30, 41, 192, 168, 33, 44,
	}
	for len(b) < 4*words {
		b = append(b, byte(0x90+len(b)))
	}
	return summed(append(b, body...))
}

// summed is b, whose head's sum is made right. It works it out as what is
// missing to a multiple of ffff.
func summed(b []byte) []byte {
	b[10], b[11] = 0, 0
	missing := 0xffff - remainder(b[:4*int(b[0]&15)])
	b[10], b[11] = byte(missing>>8), byte(missing)
	return b
}

// remainder is what is left of the bytes, as one number, when it is divided by
// ffff. As 10000 leaves 1, it is what is left of the 16-bit words' sum as well.
func remainder(b []byte) int {
	left := 0
	for _, x := range b {
		left = (left*256 + int(x)) % 0xffff
	}
	return left
}

// with is b with another byte at a place, and all else as it was.
func with(b []byte, at int, x byte) []byte {
	b = slices.Clone(b)
	b[at] = x
	return b
}

// withAll is b with another number of bytes in all, and a right sum.
func withAll(b []byte, all int) []byte {
	return summed(with(with(b, 2, byte(all>>8)), 3, byte(all)))
}

// madeNet is what a packet of made says.
func madeNet(body []byte) Net {
	return Net{
		Proto: 17,
		Src:   [16]byte{10, 200, 30, 41},
		Dst:   [16]byte{192, 168, 33, 44},
		Body:  body,
		First: true,
	}
}

// same is whether two are the same: a body of no bytes may be nil or empty.
func same(a, b Net) bool {
	return a.Proto == b.Proto && a.Src == b.Src && a.Dst == b.Dst && a.First == b.First && bytes.Equal(a.Body, b.Body)
}

func short(b []byte) []byte {
	return b[:min(len(b), 64)]
}

// checkFine fails unless b is Fine, and says what it ought to.
func checkFine(t *testing.T, b []byte, want Net) {
	t.Helper()
	if got, why := Parse(b); why != api.Fine || !same(got, want) {
		got.Body, want.Body = short(got.Body), short(want.Body)
		t.Fatalf("%d bytes, %x: %v %d, not %v", len(b), short(b), got, why, want)
	}
}

// checkNot fails unless b is answered by that reason, and nothing beside it.
func checkNot(t *testing.T, b []byte, want api.Reason) {
	t.Helper()
	got, why := Parse(b)
	if why != want {
		t.Fatalf("%d bytes, %x: %d, not %d", len(b), short(b), why, want)
	}
	if len(got.Body) > 0 || !same(got, Net{}) {
		t.Fatalf("%d bytes, %x: %v beside %d", len(b), short(b), got, why)
	}
}

// plain is the chapter's words once more, question by question. A head's sum
// isn't 0, as its first byte isn't: so it comes to ffff if ffff goes into it.
func plain(b []byte) (Net, api.Reason) {
	if len(b) < 20 {
		return Net{}, api.Short
	}
	words, all := int(b[0])%16, int(b[2])*256+int(b[3])
	switch {
	case b[0]/16 != 4, words < 5:
		return Net{}, api.BadHead
	case len(b) < 4*words:
		return Net{}, api.Short
	case all < 4*words, all > len(b):
		return Net{}, api.BadLength
	case remainder(b[:4*words]) != 0:
		return Net{}, api.BadSum
	}
	n := Net{Proto: b[9], First: b[6]%32 == 0 && b[7] == 0, Body: b[4*words : all]}
	for k := range 4 {
		n.Src[k], n.Dst[k] = b[12+k], b[16+k]
	}
	return n, api.Fine
}

// checkPlain fails unless b is answered as the plain way does.
func checkPlain(t *testing.T, b []byte) {
	t.Helper()
	if want, why := plain(b); why == api.Fine {
		checkFine(t, b, want)
	} else {
		checkNot(t, b, why)
	}
}

func TestTheChaptersExample(t *testing.T) {
	checkNot(t, nil, api.Short)
	checkNot(t, []byte{}, api.Short)
	checkNot(t, made(5, nil)[:0], api.Short)
	checkNot(t, made(5, nil)[20:], api.Short)
}

// Heads that others worked out: the sums weren't made by this file.
func TestHeadsByHand(t *testing.T) {
	for _, c := range []struct {
		head string
		want Net
	}{
		{"4500007300004000" + "4011b861c0a80001" + "c0a800c7",
			Net{Proto: 17, Src: [16]byte{192, 168, 0, 1}, Dst: [16]byte{192, 168, 0, 199}, First: true, Body: counted(95)}},
		{"4500003c1c464000" + "4006b1e6ac100a63" + "ac100a0c",
			Net{Proto: 6, Src: [16]byte{172, 16, 10, 99}, Dst: [16]byte{172, 16, 10, 12}, First: true, Body: counted(40)}},
	} {
		head, err := hex.DecodeString(c.head)
		if err != nil {
			t.Fatal(err)
		}
		checkFine(t, append(head, c.want.Body...), c.want)
		checkFine(t, append(append(slices.Clip(head), c.want.Body...), 1, 2, 3), c.want)
		checkNot(t, append(with(head, 11, head[11]+1), c.want.Body...), api.BadSum)
	}
}

func TestEachHeadWithEachBody(t *testing.T) {
	for words := 5; words <= 15; words++ {
		for _, size := range append([]int{0xffff - 4*words}, bodySizes...) {
			body := counted(size)
			b := made(words, body)
			checkFine(t, b, madeNet(body))
			for _, behind := range []int{1, 2, 3, 26, 46, 70000} {
				checkFine(t, append(slices.Clip(b), counted(behind)...), madeNet(body))
			}
		}
	}
}

// A packet that ends at each place, with spare room in which all of it stands,
// and without.
func TestEndsAtEachPlace(t *testing.T) {
	for words := 5; words <= 15; words++ {
		for _, size := range []int{0, 1, 9, 50} {
			b := made(words, counted(size))
			for n := range b {
				want := api.BadLength
				if n < 4*words {
					want = api.Short
				}
				checkNot(t, b[:n], want)
				checkNot(t, slices.Clone(b[:n:n]), want)
			}
			checkFine(t, b, madeNet(counted(size)))
		}
	}
}

// Ahead of 20 bytes nothing else is asked, whatever stands there.
func TestFewerThan20Bytes(t *testing.T) {
	for n := range 20 {
		for first := range 256 {
			for _, x := range []byte{0, 1, 0x45, 0xff} {
				b := bytes.Repeat([]byte{x}, n)
				if n > 0 {
					b[0] = byte(first)
				}
				checkNot(t, b, api.Short)
			}
		}
	}
}

// Every first byte: 11 of them are a head's. The sum is right of each that has
// words enough to be asked for it.
func TestEachVersionAndEachNumberOfWords(t *testing.T) {
	fine := 0
	for first := range 256 {
		b := withAll(with(made(15, counted(40)), 0, byte(first)), 100)
		if first>>4 != 4 || first&15 < 5 {
			checkNot(t, b, api.BadHead)
			checkNot(t, with(b, 11, b[11]+1), api.BadHead)
			continue
		}
		fine++
		head := 4 * (first & 15)
		checkFine(t, b, madeNet(b[head:]))
		for n := 20; n < head; n++ {
			checkNot(t, b[:n], api.Short)
		}
	}
	if fine != 11 {
		t.Errorf("%d", fine)
	}
}

func TestEachNumberOfBytesInAll(t *testing.T) {
	for words := 5; words <= 15; words++ {
		head := 4 * words
		for _, length := range []int{head, head + 1, head + 33, 1500} {
			b := made(words, counted(length-head))
			for all := range 1 << 16 {
				b[2], b[3] = byte(all>>8), byte(all)
				summed(b)
				if all < head || all > length {
					checkNot(t, b, api.BadLength)
				} else {
					checkFine(t, b, madeNet(b[head:all]))
				}
			}
		}
	}
}

func TestTheGreatestNumberOfBytesInAll(t *testing.T) {
	for words := 5; words <= 15; words++ {
		b := made(words, counted(0xffff-4*words))
		checkFine(t, b, madeNet(counted(0xffff-4*words)))
		checkNot(t, b[:0xfffe], api.BadLength)
		checkFine(t, append(b, 1, 2), madeNet(counted(0xffff-4*words)))
	}
}

// turned is the reason of a right head with a bit of this byte turned.
func turned(b []byte, at int) api.Reason {
	all := int(b[2])<<8 + int(b[3])
	switch {
	case at == 0:
		return api.BadHead
	case (at == 2 || at == 3) && (all < 4*int(b[0]&15) || all > len(b)):
		return api.BadLength
	}
	return api.BadSum
}

// With many bytes behind the packet's end, so that another number in all may
// be there as well.
func TestEachBitOfARightHeadTurned(t *testing.T) {
	seen := map[api.Reason]int{}
	for words := 5; words <= 15; words++ {
		for _, behind := range []int{0, 1, 300, 70000} {
			b := append(made(words, counted(77)), make([]byte, behind)...)
			for at := range 4 * words {
				for bit := range 8 {
					if at == 0 && bit < 4 {
						continue
					}
					b[at] ^= 1 << bit
					why := turned(b, at)
					checkNot(t, b, why)
					seen[why]++
					b[at] ^= 1 << bit
				}
			}
			checkFine(t, b, madeNet(counted(77)))
		}
	}
	for _, why := range []api.Reason{api.BadHead, api.BadLength, api.BadSum} {
		if seen[why] == 0 {
			t.Errorf("reason %d never came", why)
		}
	}
}

// The sum is the head's alone.
func TestEachBitBehindTheHeadTurned(t *testing.T) {
	for words := 5; words <= 15; words++ {
		b := append(made(words, counted(19)), 1, 2, 3, 4)
		for at := 4 * words; at < len(b); at++ {
			for bit := range 8 {
				b[at] ^= 1 << bit
				checkFine(t, b, madeNet(b[4*words:4*words+19]))
				b[at] ^= 1 << bit
			}
		}
	}
}

// fixed are the 16-bit words of a head by which other questions are asked.
var fixed = []int{0, 1, 3}

// ofTotal is a head whose 16-bit words come to total, if no carry is added
// again; nil, if there is none. The words are filled from the last one on, or
// from the first one on.
func ofTotal(words, total int, fromLast bool) []byte {
	b := make([]byte, 4*words)
	b[0], b[3] = byte(0x40+words), byte(4*words)
	left := total - int(b[0])<<8 - int(b[3])
	for k := range 2 * words {
		at := k
		if fromLast {
			at = 2*words - 1 - k
		}
		if slices.Contains(fixed, at) {
			continue
		}
		x := max(0, min(left, 0xffff))
		b[2*at], b[2*at+1] = byte(x>>8), byte(x)
		left -= x
	}
	if left != 0 {
		return nil
	}
	return b
}

// Those that come to ffff at once, or with carries; those beside them; those
// whose low half is ffff or 0, and that don't come to ffff; those whose carry
// makes a carry of its own, as 1ffff, which comes to 10000, and so to 1.
func TestEachTotal(t *testing.T) {
	for words := 5; words <= 15; words++ {
		for _, fromLast := range []bool{false, true} {
			fine := 0
			for high := range 2*words - 1 {
				for low := -40; low <= 40; low++ {
					total := high<<16 + low
					b := ofTotal(words, total, fromLast)
					if b == nil {
						continue
					}
					if total%0xffff != 0 {
						checkNot(t, b, api.BadSum)
						continue
					}
					fine++
					got, why := Parse(b)
					if why != api.Fine || got.Proto != b[9] || len(got.Body) > 0 {
						t.Fatalf("%x: %v %d", b, got, why)
					}
				}
			}
			if fine != 2*words-3 {
				t.Errorf("%d words: %d totals were right", words, fine)
			}
		}
	}
}

func TestTotalsByHand(t *testing.T) {
	for _, c := range []struct {
		head string
		want api.Reason
	}{
		{"45000014000000000000" + "baeb" + "0000000000000000", api.Fine},   // ffff
		{"45000014000000000000" + "baea" + "0000000000000000", api.BadSum}, // fffe
		{"45000014000000000000" + "baec" + "0000000000000000", api.BadSum}, // 10000: its low half is 0
		{"45000014000000000000" + "baec" + "fffe000000000000", api.Fine},   // 1fffe
		{"45000014000000000000" + "baec" + "ffff000000000000", api.BadSum}, // 1ffff: its low half is ffff
		{"45000014000000000000" + "baec" + "ffff000100000000", api.BadSum}, // 20000
		{"45000014000000000000" + "baeb" + "ffffffff00000000", api.Fine},   // 2fffd
		{"45000014000000000000" + "baeb" + "ffffffffffffffff", api.Fine},   // 4fffb
		{"45000014000000000000" + "baeb" + "ffffffffffff0000", api.Fine},   // 3fffc
		{"45000014000000000000" + "baeb" + "ffffffffffff0003", api.BadSum}, // 3ffff
		{"45000014000000000000" + "baeb" + "ffffffffffff0004", api.BadSum}, // 40000
		{"45000014000000000000" + "0000" + "baeb000000000000", api.Fine},   // the others come to ffff, and the sum is 0
		{"45000014000000000000" + "ffff" + "baeb000000000000", api.Fine},   // or ffff
		{"45000014000000000000" + "0001" + "baeb000000000000", api.BadSum}, // 10000
		{"45000014000000000000" + "fffe" + "baec000000000000", api.Fine},   // the others come to 10000, so to 1
		{"45000014000000000000" + "ffff" + "baec000000000000", api.BadSum}, // 1ffff
		{"45000014000000000000" + "0000" + "baec000000000000", api.BadSum}, // 10000
		{"45000014000000000000" + "ebba" + "0000000000000000", api.BadSum}, // the sum's bytes turned round
		{"45000014000000000000" + "0000" + "0000000000000000", api.BadSum}, // no sum at all
	} {
		b, err := hex.DecodeString(c.head)
		if err != nil {
			t.Fatal(err)
		}
		if _, why := Parse(b); why != c.want {
			t.Errorf("%s: %d, not %d", c.head, why, c.want)
		}
	}
}

// Of all sums a head has one that is right, or two: 0 and ffff are the same.
func TestEachSum(t *testing.T) {
	both := ofTotal(5, 0xffff, true)
	for _, c := range []struct {
		head  []byte
		right []int
	}{
		{made(5, nil), []int{0xffff - remainder(with(with(made(5, nil), 10, 0), 11, 0))}},
		{both, []int{0, 0xffff}},
	} {
		var right []int
		for s := range 1 << 16 {
			c.head[10], c.head[11] = byte(s>>8), byte(s)
			switch _, why := Parse(c.head); why {
			case api.Fine:
				right = append(right, s)
			case api.BadSum:
			default:
				t.Fatalf("%x: %d", c.head, why)
			}
		}
		if !slices.Equal(right, c.right) {
			t.Errorf("%x: %x, not %x", c.head, right, c.right)
		}
	}
}

// Each place, with each of the three bits above it.
func TestEachFragmentsPlace(t *testing.T) {
	first := 0
	for place := range 1 << 16 {
		b := made(5, []byte("abc"))
		b[6], b[7] = byte(place>>8), byte(place)
		want := madeNet([]byte("abc"))
		want.First = place&0x1fff == 0
		if want.First {
			first++
		}
		checkFine(t, summed(b), want)
	}
	if first != 8 {
		t.Errorf("%d", first)
	}
}

func TestPlacesByHand(t *testing.T) {
	for place, want := range map[uint16]bool{
		0x0000: true, 0x2000: true, 0x4000: true, 0x8000: true, 0xe000: true,
		0x0001: false, 0x0100: false, 0x1000: false, 0x1fff: false,
		0x2001: false, 0x4100: false, 0x9000: false, 0xffff: false,
	} {
		b := made(7, nil)
		b[6], b[7] = byte(place>>8), byte(place)
		if got, why := Parse(summed(b)); why != api.Fine || got.First != want {
			t.Errorf("%04x: %v %d", place, got, why)
		}
	}
}

func TestEachProtocol(t *testing.T) {
	for proto := range 256 {
		want := madeNet([]byte("xy"))
		want.Proto = uint8(proto)
		checkFine(t, summed(with(made(6, []byte("xy")), 9, byte(proto))), want)
	}
}

// Each byte of both addresses by itself; noughts stand behind them.
func TestEachByteOfTheAddresses(t *testing.T) {
	for at := range 8 {
		for x := range 256 {
			want := madeNet(counted(30))
			if at < 4 {
				want.Src[at] = byte(x)
			} else {
				want.Dst[at-4] = byte(x)
			}
			checkFine(t, summed(with(made(9, counted(30)), 12+at, byte(x))), want)
		}
	}
}

// The service, the number, how long it lives, and the options.
func TestOtherBytesOfTheHeadMakeNoDifference(t *testing.T) {
	for _, at := range []int{1, 4, 5, 8, 20, 21, 39, 58, 59} {
		for x := range 256 {
			checkFine(t, summed(with(made(15, counted(5)), at, byte(x))), madeNet(counted(5)))
		}
	}
}

// Each packet has this reason, and all those that are asked behind it.
func TestTheReasonsInTheirOrder(t *testing.T) {
	wrongSum := func(b []byte) []byte { return with(b, 11, b[11]+1) }
	right := made(8, counted(12))
	few, many := withAll(right, 31), withAll(right, 45)
	for _, c := range []struct {
		b    []byte
		want api.Reason
	}{
		{wrongSum(right), api.BadSum},
		{few, api.BadLength},
		{many, api.BadLength},
		{wrongSum(few), api.BadLength},
		{wrongSum(many), api.BadLength},
		{right[:31], api.Short},
		{few[:31], api.Short},
		{wrongSum(few)[:31], api.Short},
		{wrongSum(many)[:20], api.Short},
		{with(right, 0, 0x58), api.BadHead},
		{with(right, 0, 0x44), api.BadHead},
		{with(right, 0, 0x34), api.BadHead},
		{with(wrongSum(few), 0, 0x40), api.BadHead},
		{with(wrongSum(many), 0, 0x6f)[:20], api.BadHead},
		{with(wrongSum(many), 0, 0xff)[:31], api.BadHead},
		{with(wrongSum(few), 0, 0x00)[:20], api.BadHead},
		{with(wrongSum(few), 0, 0x6f)[:19], api.Short},
		{with(wrongSum(many), 0, 0x44)[:19], api.Short},
		{with(wrongSum(many), 0, 0x00)[:1], api.Short},
	} {
		checkNot(t, c.b, c.want)
	}
}

// Not even a body of no bytes stands beside a reason, nor a place that could
// be taken for a first one.
func TestBesideAReasonAllIsZero(t *testing.T) {
	right := made(6, counted(9))
	for _, b := range [][]byte{
		nil, right[:19], right[:23], right[:32], with(right, 0, 0x66), with(right, 0, 0x43),
		withAll(right, 23), withAll(right, 34), with(right, 8, 1),
	} {
		got, why := Parse(b)
		if why == api.Fine || len(got.Body) > 0 {
			t.Errorf("%x: %v %d", b, got, why)
		}
		got.Body = nil
		if !reflect.ValueOf(got).IsZero() {
			t.Errorf("%x: %v beside %d", b, got, why)
		}
	}
}

// The spare room is as if it weren't there: it could make a short one whole.
func TestSpareRoomMakesNoDifference(t *testing.T) {
	for words := 5; words <= 15; words++ {
		whole := append(made(words, counted(11)), 1, 2, 3)
		for n := range len(whole) + 1 {
			checkPlain(t, whole[:n])
			checkPlain(t, slices.Clip(whole[:n]))
			checkPlain(t, slices.Clone(whole[:n:n]))
		}
	}
}

// Packets that are answered by each reason, with more ahead of them and behind
// them; the body, its spare room too, is written to.
func TestWhatIsHandedInStaysAsItWas(t *testing.T) {
	for words := 5; words <= 15; words++ {
		for _, size := range []int{0, 1, 40} {
			right := made(words, counted(size))
			for _, b := range [][]byte{right, with(right, 0, 0x54), with(right, 8, 9), withAll(right, 3)} {
				room := append([]byte{9, 9, 9}, b...)
				room = append(room, 7, 6, 5, 4, 3, 2, 1)
				before := slices.Clone(room)
				for n := range len(room) - 2 {
					in := room[3 : 3+n]
					got, _ := Parse(in)
					whole := got.Body[:cap(got.Body)]
					for k := range whole {
						whole[k] ^= 0xff
					}
					_ = append(got.Body, 0xee, 0xee)
					if !bytes.Equal(room, before) || len(in) != n {
						t.Fatalf("%d bytes: %x, and was %x", n, room, before)
					}
				}
			}
		}
	}
}

// What was answered stays as it was when the packet is written to, or another
// answer's body.
func TestWhatIsHandedInIsNotKept(t *testing.T) {
	for _, size := range bodySizes {
		b := made(6, counted(size))
		first, _ := Parse(b)
		second, _ := Parse(b)
		clear(second.Body[:cap(second.Body)])
		clear(b)
		if !same(first, madeNet(counted(size))) {
			t.Errorf("%v", first)
		}
		checkNot(t, b, api.BadHead)
		copy(b, made(5, counted(size+4)))
		checkFine(t, b, madeNet(counted(size+4)))
	}
}

// drawn is a packet with a right sum, most of whose bytes are drawn, and then
// perhaps another byte at some place, or another end.
func drawn(draw *rand.Rand) []byte {
	words := 5 + draw.Intn(11)
	b := make([]byte, 4*words+draw.Intn(12))
	draw.Read(b)
	all := 4*words + draw.Intn(len(b)-4*words+1)
	b[0], b[2], b[3] = byte(0x40+words), 0, byte(all)
	if draw.Intn(2) == 0 {
		b[6], b[7] = b[6]&0xe0, 0
	}
	summed(b)
	switch draw.Intn(6) {
	case 0:
		b[draw.Intn(len(b))] = byte(draw.Intn(256))
	case 1:
		b = b[:draw.Intn(len(b))]
	case 2:
		b[0] = byte(draw.Intn(256))
	case 3:
		b[3] = byte(draw.Intn(90))
	}
	return b
}

func TestDrawnPacketsAgainstThePlainWay(t *testing.T) {
	draw := rand.New(rand.NewSource(9))
	seen := map[api.Reason]int{}
	for range 300000 {
		b := drawn(draw)
		checkPlain(t, b)
		_, why := Parse(b)
		seen[why]++
	}
	for _, why := range []api.Reason{api.Fine, api.Short, api.BadHead, api.BadLength, api.BadSum} {
		if seen[why] < 1000 {
			t.Errorf("reason %d came %d times alone", why, seen[why])
		}
	}
}

func TestSeveralAtOnce(t *testing.T) {
	b := made(11, counted(20))
	var all sync.WaitGroup
	for range 8 {
		all.Go(func() {
			for k := range 2000 {
				n := k % (len(b) + 1)
				want, why := plain(b[:n])
				got, reason := Parse(b[:n])
				if reason != why || !same(got, want) {
					t.Errorf("%d bytes: %v %d", n, got, reason)
					return
				}
				clear(got.Body)
			}
		})
	}
	all.Wait()
}

func FuzzAgainstThePlainWay(f *testing.F) {
	f.Add([]byte(nil))
	for words := 5; words <= 15; words++ {
		for _, size := range []int{0, 1, 8} {
			b := made(words, counted(size))
			f.Add(b)
			f.Add(b[:len(b)-1])
			f.Add(append(slices.Clip(b), 1, 2))
		}
	}
	f.Fuzz(func(t *testing.T, b []byte) {
		before := slices.Clone(b)
		checkPlain(t, b)
		if len(b) >= 60 { // so that the head is there, however long
			checkPlain(t, summed(slices.Clone(b)))
		}
		if !bytes.Equal(b, before) {
			t.Fatalf("%x, and was %x", b, before)
		}
	})
}
