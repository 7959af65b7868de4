package inet6

import (
	"bytes"
	"encoding/hex"
	"math/rand"
	"reflect"
	"slices"
	"sync"
	"testing"

	"bailiff/api"
	"bailiff/inet"
)

// bodySizes are bodies of no byte, one, and many, odd ones too.
var bodySizes = []int{0, 1, 2, 7, 8, 9, 255, 256, 257, 1440}

// kinds are the numbers of more heads; sized are those that tell how many
// bytes they have.
var (
	kinds = []byte{0, 43, 44, 60}
	sized = []byte{0, 43, 60}
)

// src and dst are addresses no two bytes of which are the same.
var (
	src = [16]byte{0x20, 1, 0xd, 0xb8, 5, 6, 7, 8, 9, 10, 11, 12, 14, 15, 16, 17}
	dst = [16]byte{0xfe, 0x80, 0xa1, 0xa2, 0xa3, 0xa4, 0xa5, 0xa6, 0xa7, 0xa8, 0xa9, 0xaa, 0xab, 0xac, 0xad, 0xae}
)

// counted is a body of n bytes that differ from their neighbours.
func counted(n int) []byte {
	body := make([]byte, n)
	for k := range body {
		body[k] = byte(k*7 + 0xa1)
	}
	return body
}

// made is a packet: a head of this next, and all the parts behind it.
func made(next byte, parts ...[]byte) []byte {
	behind := slices.Concat(parts...)
	b := []byte{0x6b, 0xcd, 0xef, 0x12, byte(len(behind) >> 8), byte(len(behind)), next, 63}
	return slices.Concat(b, src[:], dst[:], behind)
}

// more is one more head, of so many times 8 bytes.
func more(next byte, units int) []byte {
	b := counted(8 * units)
	b[0], b[1] = next, byte(units-1)
	return b
}

// piece is a fragment's head, with these 16 bits of its place and what stands
// below it. Its second byte would tell of others that they have 2048 bytes.
func piece(next byte, bits int) []byte {
	return []byte{next, 0xff, byte(bits >> 8), byte(bits), 0xca, 0xfe, 0xba, 0xbe}
}

// headOf is one more head of this kind, of 8 bytes, a fragment's place being 0.
func headOf(kind, next byte) []byte {
	if kind == 44 {
		return piece(next, 1)
	}
	return more(next, 1)
}

// line is the heads of these kinds, one behind the other, and then next.
func line(next byte, kinds ...byte) []byte {
	var b []byte
	for k := range kinds {
		follows := next
		if k+1 < len(kinds) {
			follows = kinds[k+1]
		}
		b = append(b, headOf(kinds[k], follows)...)
	}
	return b
}

// with is b with another byte at a place, and all else as it was.
func with(b []byte, at int, x byte) []byte {
	b = slices.Clone(b)
	b[at] = x
	return b
}

// withLength is b with another number of bytes that stand behind its head.
func withLength(b []byte, length int) []byte {
	return with(with(b, 4, byte(length>>8)), 5, byte(length))
}

// net is what a packet of made says.
func net(proto byte, body []byte) inet.Net {
	return inet.Net{Proto: proto, Src: src, Dst: dst, Body: body, First: true}
}

// later is what a packet of made says, if it is a later fragment.
func later(proto byte, body []byte) inet.Net {
	n := net(proto, body)
	n.First = false
	return n
}

// same is whether two are the same: a body of no bytes may be nil or empty.
func same(a, b inet.Net) bool {
	return a.Proto == b.Proto && a.Src == b.Src && a.Dst == b.Dst && a.First == b.First && bytes.Equal(a.Body, b.Body)
}

func short(b []byte) []byte {
	return b[:min(len(b), 120)]
}

// checkFine fails unless b is Fine, and says what it ought to.
func checkFine(t *testing.T, b []byte, want inet.Net) {
	t.Helper()
	if got, why := Parse(b); why != api.Fine || !same(got, want) {
		got.Body, want.Body = short(got.Body), short(want.Body)
		t.Fatalf("%d bytes, %x: %v %d, not %v", len(b), short(b), got, why, want)
	}
}

// checkNot fails unless b is answered by that reason, and nothing beside it.
func checkNot(t *testing.T, b []byte, want api.Reason) {
	t.Helper()
	got, why := Parse(b)
	if why != want {
		t.Fatalf("%d bytes, %x: %d, not %d", len(b), short(b), why, want)
	}
	if len(got.Body) > 0 || !same(got, inet.Net{}) {
		t.Fatalf("%d bytes, %x: %v beside %d", len(b), short(b), got, why)
	}
}

// plain is the chapter's words once more: places are counted from the packet's
// beginning, and numbers are divided where Parse shifts.
func plain(b []byte) (inet.Net, api.Reason) {
	if len(b) < 40 {
		return inet.Net{}, api.Short
	}
	end := 40 + 256*int(b[4]) + int(b[5])
	switch {
	case b[0]/16 != 6:
		return inet.Net{}, api.BadHead
	case len(b) < end:
		return inet.Net{}, api.BadLength
	}
	n, why := plainHeads(b[:end], b[6], 40, 1)
	if why != api.Fine {
		return inet.Net{}, why
	}
	for k := range 16 {
		n.Src[k], n.Dst[k] = b[8+k], b[24+k]
	}
	return n, api.Fine
}

// plainHeads goes on at the head that next tells of, at that place; if it is
// one, it is the so manieth.
func plainHeads(b []byte, next byte, at, count int) (inet.Net, api.Reason) {
	if bytes.IndexByte(kinds, next) < 0 {
		return inet.Net{Proto: next, Body: b[at:], First: true}, api.Fine
	}
	switch {
	case count > 8:
		return inet.Net{}, api.TooMany
	case at+8 > len(b):
		return inet.Net{}, api.Short
	case next == 44 && (b[at+2] != 0 || b[at+3]/8 != 0):
		return inet.Net{Proto: b[at], Body: b[at+8:]}, api.Fine
	case next == 44:
		return plainHeads(b, b[at], at+8, count+1)
	case at+8+8*int(b[at+1]) > len(b):
		return inet.Net{}, api.Short
	}
	return plainHeads(b, b[at], at+8+8*int(b[at+1]), count+1)
}

// checkPlain fails unless b is answered as the plain way does.
func checkPlain(t *testing.T, b []byte) {
	t.Helper()
	if want, why := plain(b); why == api.Fine {
		checkFine(t, b, want)
	} else {
		checkNot(t, b, why)
	}
}

func TestTheChaptersExample(t *testing.T) {
	b := make([]byte, 48)
	b[0], b[5], b[6] = 0x60, 8, 17
	copy(b[40:], "abcdefgh")
	checkFine(t, b, inet.Net{Proto: 17, Body: []byte("abcdefgh"), First: true})
	checkFine(t, made(17, []byte("abcdefgh")), net(17, []byte("abcdefgh")))
}

func TestNoBytes(t *testing.T) {
	checkNot(t, nil, api.Short)
	checkNot(t, []byte{}, api.Short)
	checkNot(t, made(17)[:0], api.Short)
	checkNot(t, made(17)[40:], api.Short)
}

// Packets written out by hand, byte by byte.
func TestPacketsByHand(t *testing.T) {
	const addresses = "20010db8000000000000000000000001" + "20010db80000000000000000000000ff"
	for _, c := range []struct {
		b     string
		proto byte
		body  string
		first bool
	}{
		{"6000000000083a40" + addresses + "8000123400010002", 58, "8000123400010002", true},
		{"6000000000003b40" + addresses, 59, "", true},
		{"6fffffff00012fff" + addresses + "aabb", 47, "aa", true},
		{"6000000000090040" + addresses + "1100050200000000" + "ab", 17, "ab", true},
		{"6000000000112b40" + addresses + "0601000000000000" + "1122334455667788" + "cd", 6, "cd", true},
		{"6000000000092c40" + addresses + "1100000100000007" + "ef", 17, "ef", true},
		{"6000000000092c40" + addresses + "1100000900000007" + "ef", 17, "ef", false},
		{"6000000000092c40" + addresses + "1100800000000007" + "ef", 17, "ef", false},
		{"6000000000183c40" + addresses + "2b00000000000000" + "3c00000000000000" + "0600000000000000", 6, "", true},
	} {
		b, err := hex.DecodeString(c.b)
		if err != nil {
			t.Fatal(err)
		}
		body, err := hex.DecodeString(c.body)
		if err != nil {
			t.Fatal(err)
		}
		want := inet.Net{Proto: c.proto, Body: body, First: c.first}
		want.Src = [16]byte{0x20, 1, 0xd, 0xb8, 15: 1}
		want.Dst = [16]byte{0x20, 1, 0xd, 0xb8, 15: 0xff}
		checkFine(t, b, want)
	}
}

// Bytes behind the packet's end are not of it.
func TestEachBody(t *testing.T) {
	for _, size := range append([]int{0xffff}, bodySizes...) {
		body := counted(size)
		b := made(6, body)
		checkFine(t, b, net(6, body))
		for _, behind := range []int{1, 2, 7, 8, 46, 70000} {
			checkFine(t, append(slices.Clip(b), counted(behind)...), net(6, body))
		}
	}
}

// A packet that ends at each place, with spare room in which all of it stands,
// and without.
func TestEndsAtEachPlace(t *testing.T) {
	for _, c := range []struct {
		b    []byte
		want inet.Net
	}{
		{made(17), net(17, nil)},
		{made(17, counted(1)), net(17, counted(1))},
		{made(17, counted(300)), net(17, counted(300))},
		{made(0, line(6, kinds...), counted(50)), net(6, counted(50))},
		{made(44, piece(6, 8), counted(50)), later(6, counted(50))},
		{made(0, slices.Repeat(more(0, 2), 9)), inet.Net{}}, // too many, but for its end
	} {
		for n := range c.b {
			want := api.BadLength
			if n < 40 {
				want = api.Short
			}
			checkNot(t, c.b[:n], want)
			checkNot(t, slices.Clone(c.b[:n:n]), want)
		}
		if same(c.want, inet.Net{}) {
			checkNot(t, c.b, api.TooMany)
		} else {
			checkFine(t, c.b, c.want)
		}
	}
}

// Ahead of 40 bytes nothing else is asked, whatever stands there.
func TestFewerThan40Bytes(t *testing.T) {
	for n := range 40 {
		for first := range 256 {
			for _, x := range []byte{0, 44, 0x60, 0xff} {
				b := bytes.Repeat([]byte{x}, n)
				if n > 0 {
					b[0] = byte(first)
				}
				checkNot(t, b, api.Short)
			}
		}
	}
}

// Every first byte: the low half tells nothing of the version.
func TestEachVersion(t *testing.T) {
	fine := 0
	for _, heads := range [][]byte{{}, {43}, {0, 44, 60}} {
		right := made(append(heads, 17)[0], line(17, heads...), counted(9))
		for first := range 256 {
			b := with(right, 0, byte(first))
			if first>>4 == 6 {
				fine++
				checkFine(t, b, net(17, counted(9)))
				continue
			}
			checkNot(t, b, api.BadHead)
			checkNot(t, b[:40], api.BadHead)
			checkNot(t, with(b, 4, 0xff), api.BadHead)
			checkNot(t, with(b, 6, 0), api.BadHead)
			checkNot(t, b[:39], api.Short)
		}
	}
	if fine != 3*16 {
		t.Errorf("%d", fine)
	}
}

func TestEachNumberOfBytesBehind(t *testing.T) {
	for _, size := range []int{0, 1, 33, 256, 1460} {
		b := made(17, counted(size))
		for length := range 1 << 16 {
			b[4], b[5] = byte(length>>8), byte(length)
			if length > size {
				checkNot(t, b, api.BadLength)
			} else {
				checkFine(t, b, net(17, counted(size)[:length]))
			}
		}
	}
}

func TestTheGreatestNumberOfBytesBehind(t *testing.T) {
	body := counted(0xffff)
	b := made(17, body)
	checkFine(t, b, net(17, body))
	checkNot(t, b[:len(b)-1], api.BadLength)
	checkFine(t, append(b, 1, 2), net(17, body))
	b = made(60, more(44, 256), piece(17, 7), counted(0xffff-2056))
	checkFine(t, b, net(17, counted(0xffff-2056)))
	checkNot(t, b[:len(b)-1], api.BadLength)
}

// Every number that comes next: four of them are more heads', all others the
// protocol. Bytes enough for a head stand behind it, and none at all.
func TestEachNext(t *testing.T) {
	heads := 0
	for next := range 256 {
		behind := append(more(17, 1), counted(5)...)
		behind[2], behind[3] = 0, 0
		if bytes.IndexByte(kinds, byte(next)) < 0 {
			checkFine(t, made(byte(next), behind), net(byte(next), behind))
			checkFine(t, made(byte(next)), net(byte(next), nil))
			continue
		}
		heads++
		checkFine(t, made(byte(next), behind), net(17, counted(5)))
		checkNot(t, made(byte(next)), api.Short)
	}
	if heads != 4 {
		t.Errorf("%d", heads)
	}
}

// Every number that comes next behind one more head of each kind.
func TestEachNextBehindAnotherHead(t *testing.T) {
	for _, kind := range kinds {
		for next := range 256 {
			behind := line(6, byte(next))
			if bytes.IndexByte(kinds, byte(next)) < 0 {
				checkFine(t, made(kind, headOf(kind, byte(next)), behind), net(byte(next), behind))
				checkFine(t, made(kind, headOf(kind, byte(next))), net(byte(next), nil))
				continue
			}
			checkFine(t, made(kind, headOf(kind, byte(next)), behind), net(6, nil))
			checkNot(t, made(kind, headOf(kind, byte(next))), api.Short)
		}
	}
}

func TestEachKindAlone(t *testing.T) {
	for _, kind := range kinds {
		for _, size := range bodySizes {
			b := made(kind, headOf(kind, 17), counted(size))
			checkFine(t, b, net(17, counted(size)))
			checkFine(t, append(b, 1, 2, 3), net(17, counted(size)))
		}
	}
}

// lines goes through every line of n kinds, one behind the other.
func lines(n int, see func([]byte)) {
	total := 1
	for range n {
		total *= len(kinds)
	}
	all := make([]byte, n)
	for k := range total {
		for at := range all {
			all[at] = kinds[k%len(kinds)]
			k /= len(kinds)
		}
		see(all)
	}
}

// Every line of up to MaxHeaders heads; with each kind once more it is too
// long, whether that head is there, or part of it, or nothing.
func TestEachLineOfHeads(t *testing.T) {
	for n := 1; n <= api.MaxHeaders; n++ {
		lines(n, func(all []byte) {
			checkFine(t, made(all[0], line(17, all...), []byte("xyz")), net(17, []byte("xyz")))
		})
	}
	lines(api.MaxHeaders, func(all []byte) {
		for _, kind := range kinds {
			checkNot(t, made(all[0], line(kind, all...), headOf(kind, 17), []byte("xyz")), api.TooMany)
			checkNot(t, made(all[0], line(kind, all...), []byte("xyz")), api.TooMany)
			checkNot(t, made(all[0], line(kind, all...)), api.TooMany)
		}
	})
}

// Many more than MaxHeaders, and ones with many bytes each.
func TestManyHeads(t *testing.T) {
	for _, units := range []int{1, 2, 31} {
		for count := range 200 {
			behind := slices.Repeat(more(60, units), count)
			if count > 0 {
				behind[8*units*(count-1)] = 58
			}
			b := made(60, behind, counted(4))
			switch {
			case count == 0:
				checkNot(t, b, api.Short)
			case count <= 8:
				checkFine(t, b, net(58, counted(4)))
			default:
				checkNot(t, b, api.TooMany)
			}
		}
	}
}

// Every number of units, with all of the bytes, and with each number of bytes
// that is missing within the last unit, and beyond it.
func TestEachNumberOfUnits(t *testing.T) {
	for _, kind := range sized {
		for units := 1; units <= 256; units++ {
			head := more(17, units)
			checkFine(t, made(kind, head), net(17, nil))
			checkFine(t, made(kind, head, counted(3)), net(17, counted(3)))
			checkFine(t, made(44, piece(kind, 0), head, counted(3)), net(17, counted(3)))
			for missing := 1; missing <= min(20, len(head)); missing++ {
				few := head[:len(head)-missing]
				checkNot(t, made(kind, few), api.Short)
				checkNot(t, made(44, piece(kind, 0), few), api.Short)
				// as many as are missing stand behind the packet's end
				checkNot(t, append(made(kind, few), counted(missing)...), api.Short)
			}
		}
	}
}

// Every second byte of a fragment: it has 8 bytes nevertheless.
func TestAFragmentHas8Bytes(t *testing.T) {
	for x := range 256 {
		for _, bits := range []int{0, 1, 8, 0xffff} {
			want := net(17, counted(3))
			want.First = bits < 8
			checkFine(t, made(44, with(piece(17, bits), 1, byte(x)), counted(3)), want)
		}
	}
}

// Fewer bytes than 8, of each kind, first and behind another head, also where
// the packet's end isn't that of what is handed in.
func TestFewerThan8BytesLeft(t *testing.T) {
	for _, kind := range kinds {
		for n := range 8 {
			for _, bits := range []int{0, 8} {
				few := piece(17, bits)[:n]
				if kind != 44 {
					few = more(17, 1)[:n]
				}
				checkNot(t, made(kind, few), api.Short)
				checkNot(t, append(made(kind, few), make([]byte, 40)...), api.Short)
				for _, ahead := range kinds {
					checkNot(t, made(ahead, headOf(ahead, kind), few), api.Short)
				}
			}
		}
	}
}

// The last head that may be is Short if it isn't there. One more than that is
// TooMany, though it is as short.
func TestShortAtTheLastHeadAndTooManyBehind(t *testing.T) {
	for _, kind := range kinds {
		for n := range 8 {
			seven := slices.Repeat([]byte{60}, 7)
			checkNot(t, made(60, line(kind, seven...), headOf(kind, 17)[:n]), api.Short)
			checkNot(t, made(60, line(kind, append(seven, 60)...), headOf(kind, 17)[:n]), api.TooMany)
		}
	}
	long := line(43, slices.Repeat([]byte{0}, 7)...)
	checkNot(t, made(0, long, more(43, 4)[:31]), api.Short)
	checkNot(t, made(0, long, more(43, 4)), api.TooMany)
	checkFine(t, made(0, long, more(41, 4)), net(41, nil))
}

// Every place, with each of the three bits below it. What is not the first
// fragment has no more heads, though its next is such a number.
func TestEachFragmentsPlace(t *testing.T) {
	first := 0
	body := more(6, 1)
	for bits := range 1 << 16 {
		if bits < 8 {
			first++
			checkFine(t, made(44, piece(17, bits), body), net(17, body))
			checkFine(t, made(44, piece(60, bits), body), net(6, nil))
			continue
		}
		checkFine(t, made(44, piece(17, bits), body), later(17, body))
		checkFine(t, made(44, piece(60, bits), body), later(60, body))
	}
	if first != 8 {
		t.Errorf("%d", first)
	}
}

// Behind a later fragment each number is the protocol, those of more heads
// too, whatever stands there: bytes like a head's, too few, none.
func TestNoMoreHeadsBehindALaterFragment(t *testing.T) {
	for next := range 256 {
		for _, bits := range []int{8, 9, 0x0f, 0x80, 0x100, 0x8000, 0xfff8, 0xffff} {
			for _, body := range [][]byte{nil, {1}, counted(7), more(17, 1), line(17, 44, 43), piece(44, 8)} {
				checkFine(t, made(44, piece(byte(next), bits), body), later(byte(next), body))
			}
		}
	}
}

// A later fragment at each place that a head may stand at: at the last one too
// no more heads are looked for behind it, so there aren't too many.
func TestALaterFragmentAtEachPlaceInTheLine(t *testing.T) {
	for ahead := range api.MaxHeaders + 1 {
		for _, kind := range kinds {
			heads := line(44, slices.Repeat([]byte{kind}, ahead)...)
			for _, next := range []byte{0, 17, 43, 44, 60, 255} {
				b := made(kind, heads, piece(next, 8), counted(5))
				if ahead == 0 {
					b = made(44, piece(next, 8), counted(5))
				}
				if ahead < api.MaxHeaders {
					checkFine(t, b, later(next, counted(5)))
				} else {
					checkNot(t, b, api.TooMany)
				}
			}
		}
	}
}

// First fragments may stand one behind the other, and a later one behind them.
func TestSeveralFragments(t *testing.T) {
	checkFine(t, made(44, piece(44, 1), piece(17, 0), counted(2)), net(17, counted(2)))
	checkFine(t, made(44, piece(44, 7), piece(17, 8), counted(2)), later(17, counted(2)))
	checkFine(t, made(44, piece(44, 8), piece(17, 0)), later(44, piece(17, 0)))
	checkFine(t, made(44, piece(0, 1), more(44, 3), piece(60, 0), more(17, 1)), net(17, nil))
	checkFine(t, made(44, piece(0, 1), more(44, 3), piece(60, 16), more(17, 1)), later(60, more(17, 1)))
}

// A body may look like more heads: behind another protocol they are not.
func TestHeadsInTheBody(t *testing.T) {
	for _, proto := range []byte{1, 6, 17, 42, 45, 50, 51, 58, 59, 61, 135, 255} {
		for _, kind := range kinds {
			body := line(kind, slices.Repeat([]byte{kind}, 12)...)
			checkFine(t, made(proto, body), net(proto, body))
			checkFine(t, made(kind, headOf(kind, proto), body), net(proto, body))
			checkFine(t, made(44, piece(proto, 0xf0), body), later(proto, body))
		}
	}
}

// Each byte of both addresses by itself, also behind more heads.
func TestEachByteOfTheAddresses(t *testing.T) {
	for at := range 32 {
		for x := range 256 {
			want := net(17, counted(9))
			if at < 16 {
				want.Src[at] = byte(x)
			} else {
				want.Dst[at-16] = byte(x)
			}
			checkFine(t, with(made(17, counted(9)), 8+at, byte(x)), want)
			checkFine(t, with(made(0, line(17, 0, 43), counted(9)), 8+at, byte(x)), want)
			want.First = false
			checkFine(t, with(made(44, piece(17, 8), counted(9)), 8+at, byte(x)), want)
		}
	}
}

// The class, the flow's label and how many hops are left; of more heads all
// that isn't named, of a fragment too.
func TestOtherBytesMakeNoDifference(t *testing.T) {
	b := made(43, more(44, 2), piece(17, 0), counted(5))
	for _, at := range []int{1, 2, 3, 7, 42, 43, 44, 47, 48, 49, 55, 57, 60, 61, 62, 63} {
		for x := range 256 {
			checkFine(t, with(b, at, byte(x)), net(17, counted(5)))
		}
	}
}

// Each packet has this reason, and some of those that are asked behind it.
func TestTheReasonsInTheirOrder(t *testing.T) {
	nine := made(0, line(0, slices.Repeat([]byte{0}, 9)...), more(0, 4)[:5])
	few := made(60, more(17, 2)[:15])
	third := made(0, more(0, 2), more(0, 2)[:8], line(0, slices.Repeat([]byte{0}, 9)...)[:7])
	for _, c := range []struct {
		b    []byte
		want api.Reason
	}{
		{few, api.Short},
		{third, api.Short}, // at the second head already, as that one's bytes aren't there
		{nine, api.TooMany},
		{withLength(few, 16), api.BadLength},
		{withLength(nine, len(nine)), api.BadLength},
		{few[:40], api.BadLength},
		{nine[:len(nine)-1], api.BadLength},
		{nine[:40], api.BadLength},
		{with(few, 0, 0x4f), api.BadHead},
		{with(nine, 0, 0x70), api.BadHead},
		{with(withLength(few, 16), 0, 0x50), api.BadHead},
		{with(withLength(nine, 0xffff), 0, 0), api.BadHead},
		{with(few, 0, 0x4f)[:40], api.BadHead},
		{few[:39], api.Short},
		{with(few, 0, 0x4f)[:39], api.Short},
		{with(withLength(nine, 0xffff), 0, 0)[:39], api.Short},
		{with(withLength(nine, 0xffff), 0, 0)[:1], api.Short},
	} {
		checkNot(t, c.b, c.want)
	}
}

// What comes behind a head whose bytes aren't there is never asked: not whether
// there would be too many.
func TestHeadByHead(t *testing.T) {
	for whole := range 12 {
		heads := slices.Repeat(more(0, 1), whole)
		b := made(0, heads, more(0, 2)[:9])
		if whole < api.MaxHeaders {
			checkNot(t, b, api.Short)
		} else {
			checkNot(t, b, api.TooMany)
		}
	}
}

// Not even a body of no bytes stands beside a reason, nor an address.
func TestBesideAReasonAllIsZero(t *testing.T) {
	right := made(43, more(17, 2), counted(9))
	for _, b := range [][]byte{
		nil, right[:39], right[:40], right[:64], with(right, 0, 0x46), withLength(right, 26), withLength(right, 15),
		withLength(right, 3), made(0), made(0, slices.Repeat(more(0, 1), 20)), made(44, piece(60, 0), more(1, 1)[:7]),
	} {
		got, why := Parse(b)
		if why == api.Fine || len(got.Body) > 0 {
			t.Errorf("%x: %v %d", b, got, why)
		}
		got.Body = nil
		if !reflect.ValueOf(got).IsZero() {
			t.Errorf("%x: %v beside %d", b, got, why)
		}
	}
}

// samples are packets that are answered by each reason, and Fine ones.
func samples() [][]byte {
	right := made(43, more(44, 2), piece(17, 4), counted(9))
	return [][]byte{
		made(17), made(17, counted(1)), made(6, counted(40)), right,
		made(44, piece(0, 8), counted(11)),
		with(right, 0, 0x45), withLength(right, 99), withLength(right, 10),
		made(60, slices.Repeat(more(60, 1), 9)),
	}
}

// The spare room is as if it weren't there: it could make a short one whole.
func TestSpareRoomMakesNoDifference(t *testing.T) {
	for _, b := range samples() {
		whole := append(b, 1, 2, 3)
		for n := range len(whole) + 1 {
			checkPlain(t, whole[:n])
			checkPlain(t, slices.Clip(whole[:n]))
			checkPlain(t, slices.Clone(whole[:n:n]))
		}
	}
}

// With more ahead of the packets and behind them; the body, its spare room too,
// is written to.
func TestWhatIsHandedInStaysAsItWas(t *testing.T) {
	for _, b := range samples() {
		room := slices.Concat([]byte{9, 9, 9}, b, []byte{7, 6, 5, 4, 3, 2, 1})
		before := slices.Clone(room)
		for n := range len(room) - 2 {
			in := room[3 : 3+n]
			got, _ := Parse(in)
			whole := got.Body[:cap(got.Body)]
			for k := range whole {
				whole[k] ^= 0xff
			}
			_ = append(got.Body, 0xee, 0xee)
			if !bytes.Equal(room, before) || len(in) != n {
				t.Fatalf("%d bytes: %x, and was %x", n, room, before)
			}
		}
	}
}

// What was answered stays as it was when the packet is written to, or another
// answer's body.
func TestWhatIsHandedInIsNotKept(t *testing.T) {
	for _, size := range bodySizes {
		b := made(0, more(17, 1), counted(size))
		first, _ := Parse(b)
		second, _ := Parse(b)
		clear(second.Body[:cap(second.Body)])
		clear(b)
		if !same(first, net(17, counted(size))) {
			t.Errorf("%v", first)
		}
		checkNot(t, b, api.BadHead)
		copy(b, made(6, counted(size+8)))
		checkFine(t, b, net(6, counted(size+8)))
	}
}

// drawn is a packet with up to 10 more heads, some of them fragments, and then
// perhaps another byte at some place, another end, or another length.
func drawn(draw *rand.Rand) []byte {
	all := make([]byte, draw.Intn(11))
	for k := range all {
		all[k] = kinds[draw.Intn(len(kinds))]
	}
	next := byte(draw.Intn(256))
	b := made(append(slices.Clone(all), next)[0])
	for k := range all {
		follows := append(slices.Clone(all), next)[k+1]
		if all[k] != 44 {
			b = append(b, more(follows, 1+draw.Intn(2)*draw.Intn(4))...)
		} else if draw.Intn(4) > 0 {
			b = append(b, piece(follows, draw.Intn(8))...)
		} else {
			b = append(b, piece(follows, draw.Intn(1<<16))...)
		}
	}
	b = append(b, counted(draw.Intn(12))...)
	b = withLength(b, len(b)-40)
	switch draw.Intn(7) {
	case 0:
		b[draw.Intn(len(b))] = byte(draw.Intn(256))
	case 1:
		b = b[:draw.Intn(len(b))]
	case 2:
		b[0] = byte(draw.Intn(256))
	case 3:
		b = withLength(b, draw.Intn(len(b)-39))
	case 4:
		draw.Read(b[8:])
	}
	return b
}

func TestDrawnPacketsAgainstThePlainWay(t *testing.T) {
	draw := rand.New(rand.NewSource(10))
	seen := map[api.Reason]int{}
	pieces := 0
	for range 300000 {
		b := drawn(draw)
		checkPlain(t, b)
		n, why := Parse(b)
		seen[why]++
		if why == api.Fine && !n.First {
			pieces++
		}
	}
	for _, why := range []api.Reason{api.Fine, api.Short, api.BadHead, api.BadLength, api.TooMany} {
		if seen[why] < 1000 {
			t.Errorf("reason %d came %d times alone", why, seen[why])
		}
	}
	if pieces < 1000 {
		t.Errorf("later fragments came %d times alone", pieces)
	}
}

func TestSeveralAtOnce(t *testing.T) {
	b := made(0, line(17, kinds...), counted(20))
	var all sync.WaitGroup
	for range 8 {
		all.Go(func() {
			for k := range 2000 {
				n := k % (len(b) + 1)
				want, why := plain(b[:n])
				got, reason := Parse(b[:n])
				if reason != why || !same(got, want) {
					t.Errorf("%d bytes: %v %d", n, got, reason)
					return
				}
				clear(got.Body)
			}
		})
	}
	all.Wait()
}

func FuzzAgainstThePlainWay(f *testing.F) {
	f.Add([]byte(nil))
	for _, b := range samples() {
		f.Add(b)
		f.Add(b[:len(b)-1])
		f.Add(append(slices.Clip(b), 1, 2))
	}
	f.Fuzz(func(t *testing.T, b []byte) {
		before := slices.Clone(b)
		checkPlain(t, b)
		if len(b) >= 40 { // so that more of them get behind the first head
			checkPlain(t, withLength(with(b, 0, 0x60), min(len(b)-40, 0xffff)))
		}
		if !bytes.Equal(b, before) {
			t.Fatalf("%x, and was %x", b, before)
		}
	})
}
