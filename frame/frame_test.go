package frame

import (
	"bytes"
	"encoding/hex"
	"math/rand"
	"slices"
	"sync"
	"testing"

	"bailiff/api"
	"bailiff/ether"
	"bailiff/inet"
	"bailiff/inet6"
	"bailiff/ports"
)

func TestNoBytes(t *testing.T) {
	checkNot(t, nil, api.Short)
	checkNot(t, []byte{}, api.Short)
	checkNot(t, frame4(nil, packet4(5, 6, 0, counted(20)))[:0], api.Short)
}

// unhex is the bytes of a text of hexadecimal digits.
func unhex(t *testing.T, text string) []byte {
	t.Helper()
	b, err := hex.DecodeString(text)
	if err != nil {
		t.Fatal(err)
	}
	return b
}

// Frames of IPv4 written out by hand, byte by byte.
func TestIPv4ByHand(t *testing.T) {
	const macs = "001122334455" + "66778899aabb"
	const udp = "4500001e000100004011af1f" + "0a000105" + "c0a80002" + "003514e9" + "000a0000" + "beef"
	f := api.Flow{Proto: 17, Src: [16]byte{10, 0, 1, 5}, Dst: [16]byte{192, 168, 0, 2}, SPort: 53, DPort: 5353}
	net := api.Prefix{Addr: [7]byte{10, 0, 1}}
	b := unhex(t, udp)
	for _, c := range []struct {
		ahead, behind string
		size          int
	}{
		{macs + "0800", "", 44},
		{macs + "0800", "000000000000", 50},
		{macs + "8100" + "0064" + "0800", "", 48},
		{macs + "88a8" + "0065" + "8100" + "0064" + "0800", "ff", 53},
	} {
		checkFine(t, slices.Concat(unhex(t, c.ahead), b, unhex(t, c.behind)), api.Packet{Flow: f, Prefix: net, Len: c.size})
	}
	checkNot(t, slices.Concat(unhex(t, macs+"0806"), b), api.NotIP)
	checkNot(t, slices.Concat(unhex(t, macs+"86dd"), b), api.Short)
	checkNot(t, slices.Concat(unhex(t, macs+"86dd"), b, counted(10)), api.BadHead)
}

// Frames of IPv6 written out by hand, byte by byte.
func TestIPv6ByHand(t *testing.T) {
	const macs = "001122334455" + "66778899aabb"
	const addresses = "20010db8000700080000000000000001" + "20010db80000000000000000000000ff"
	f := api.Flow{V6: true, Src: [16]byte{0x20, 1, 0xd, 0xb8, 5: 7, 7: 8, 15: 1}, Dst: [16]byte{0x20, 1, 0xd, 0xb8, 15: 0xff}}
	net := api.Prefix{V6: true, Addr: [7]byte{0x20, 1, 0xd, 0xb8, 0, 7, 0}}
	for _, c := range []struct {
		b        string
		proto    byte
		from, to uint16
		size     int
	}{
		{macs + "86dd" + "6000000000083a40" + addresses + "8000123400010002", 58, 0x8000, 0, 62},
		{macs + "86dd" + "6000000000003b40" + addresses, 59, 0, 0, 54},
		{macs + "86dd" + "6fffffff00040640" + addresses + "01bbc000" + "0000", 6, 443, 0xc000, 60},
		{macs + "8100" + "0001" + "86dd" + "60000000000c0040" + addresses + "1100050200000000" + "00350036", 17, 53, 54, 70},
		{macs + "86dd" + "60000000000c2c40" + addresses + "1100000100000007" + "00350036", 17, 53, 54, 66},
		{macs + "86dd" + "60000000000c2c40" + addresses + "1100000900000007" + "00350036", 17, 0, 0, 66},
	} {
		f.Proto, f.SPort, f.DPort = c.proto, c.from, c.to
		checkFine(t, unhex(t, c.b), api.Packet{Flow: f, Prefix: net, Len: c.size})
	}
}

// Every protocol in both versions, each way of tags, with options and more
// heads, as a first fragment, as the only one and as a later one, with and
// without bytes behind the packet.
func TestEachProtocol(t *testing.T) {
	body := []byte{0xa1, 2, 0x83, 4, 5, 6, 7, 8}
	for proto := range 256 {
		p := byte(proto)
		from4, to4 := portsByHand(p, 1)
		from6, to6 := portsByHand(p, 58)
		for _, tags := range tagged {
			for _, behind := range []int{0, 1, 18} {
				for _, words := range []int{5, 6, 15} {
					for bits, isFirst := range map[int]bool{0: true, 0x4000: true, 0xe000: true, 1: false, 0x2100: false, 0x1fff: false} {
						b := append(frame4(tags, packet4(words, p, bits, body)), counted(behind)...)
						if isFirst {
							checkFine(t, b, of4(len(b), p, from4, to4))
						} else {
							checkFine(t, b, of4(len(b), p, 0, 0))
						}
					}
				}
				if bytes.IndexByte([]byte{0, 43, 44, 60}, p) >= 0 {
					continue
				}
				for _, packet := range [][]byte{
					packet6(p, body),
					packet6(0, more(p, 1), body),
					packet6(60, more(43, 3), more(p, 2), body),
					packet6(44, piece(p, 7), body),
					packet6(43, more(44, 1), piece(60, 0), more(p, 1), body),
				} {
					b := append(frame6(tags, packet), counted(behind)...)
					checkFine(t, b, of6(len(b), p, from6, to6))
				}
				for _, packet := range [][]byte{
					packet6(44, piece(p, 8), body),
					packet6(0, more(44, 1), piece(p, 0xffff), body),
				} {
					b := append(frame6(tags, packet), counted(behind)...)
					checkFine(t, b, of6(len(b), p, 0, 0))
				}
			}
		}
	}
}

// portsByHand is what the body of TestEachProtocol has as ports.
func portsByHand(proto, icmp byte) (uint16, uint16) {
	switch proto {
	case 6, 17:
		return 0xa102, 0x8304
	case icmp:
		return 0xa102, 0
	}
	return 0, 0
}

// A later fragment of IPv6 has what comes next as its protocol, even a number
// of one more head's.
func TestALaterFragmentOfAHead(t *testing.T) {
	for _, next := range []byte{0, 43, 44, 60} {
		for _, body := range [][]byte{nil, counted(3), more(6, 2)} {
			b := frame6(nil, packet6(44, piece(next, 0x100), body))
			checkFine(t, b, of6(len(b), next, 0, 0))
		}
	}
}

// A later fragment needs no body, and neither does a protocol without ports.
func TestNoBody(t *testing.T) {
	for _, tags := range tagged {
		for _, proto := range []byte{1, 6, 17, 58} {
			b := frame4(tags, packet4(5, proto, 1, nil))
			checkFine(t, b, of4(len(b), proto, 0, 0))
			b = frame6(tags, packet6(44, piece(proto, 8)))
			checkFine(t, b, of6(len(b), proto, 0, 0))
		}
		b := frame4(tags, packet4(5, 58, 0, nil))
		checkFine(t, b, of4(len(b), 58, 0, 0))
		b = frame6(tags, packet6(1))
		checkFine(t, b, of6(len(b), 1, 0, 0))
	}
}

// filled4 and filled6 are frames of so many bytes, with a packet up to the end.
func filled4(tags []byte, size int) []byte {
	return frame4(tags, packet4(5, 6, 0, counted(size-14-len(tags)-20)))
}

func filled6(tags []byte, size int) []byte {
	return frame6(tags, packet6(6, counted(size-14-len(tags)-40)))
}

// Frames of MaxFrame bytes, and of one fewer, are as others, whether the packet
// goes up to the end or not.
func TestFramesOfMaxFrameBytes(t *testing.T) {
	if api.MaxFrame != 9216 {
		t.Fatal(api.MaxFrame)
	}
	for _, tags := range tagged {
		for _, size := range []int{9215, 9216} {
			checkFine(t, filled4(tags, size), of4(size, 6, 0xa1a8, 0xafb6))
			checkFine(t, filled6(tags, size), of6(size, 6, 0xa1a8, 0xafb6))
			for _, packed := range []int{100, size - 1} {
				checkFine(t, append(filled4(tags, packed), make([]byte, size-packed)...), of4(size, 6, 0xa1a8, 0xafb6))
				checkFine(t, append(filled6(tags, packed), make([]byte, size-packed)...), of6(size, 6, 0xa1a8, 0xafb6))
			}
		}
	}
	for _, c := range refused() {
		for _, size := range []int{9215, 9216} {
			if b := append(slices.Clone(c.b), make([]byte, size-len(c.b))...); c.stays {
				checkNot(t, b, c.why)
			} else {
				checkPlain(t, b)
			}
		}
	}
}

// One byte more than MaxFrame, and many more: whatever is in it, and whatever
// other reason applies too.
func TestTooLong(t *testing.T) {
	frames := [][]byte{nil, bytes.Repeat([]byte{0xff}, 60), bytes.Repeat([]byte{0x81, 0}, 30)}
	for _, tags := range tagged {
		frames = append(frames, filled4(tags, 100), filled6(tags, 100), filled4(tags, 9216), filled6(tags, 9216))
	}
	for _, c := range refused() {
		frames = append(frames, c.b)
	}
	for _, b := range frames {
		for _, size := range []int{9217, 9218, 9230, 10000, 65536, 70000, 1 << 20} {
			checkNot(t, append(slices.Clone(b), make([]byte, size-len(b))...), api.TooLong)
		}
	}
	for _, size := range []int{9217, 9218, 20000} {
		checkNot(t, filled4(nil, size), api.TooLong)
		checkNot(t, filled6(nil, size), api.TooLong)
	}
}

// wrong is a frame that is refused, why, and whether it stays so with bytes
// behind it.
type wrong struct {
	b     []byte
	why   api.Reason
	stays bool
}

// refused is, with each way of tags, all reasons of the layers below; and where
// two apply, the one that is asked first.
func refused() []wrong {
	all := []wrong{
		{nil, api.Short, false},
		{counted(12), api.Short, false},
		{counted(13), api.Short, false},
		{framed(tagged[3], 0x8100, nil), api.TooMany, true},
		{framed(tagged[4], 0x88a8, packet4(5, 6, 0, counted(20))), api.TooMany, true},
	}
	for _, tags := range tagged {
		all = append(all, refusedLinks(tags)...)
		all = append(all, refused4(tags)...)
		all = append(all, refused6(tags)...)
	}
	return all
}

// refusedLinks are refused for what the frame says of what it carries.
func refusedLinks(tags []byte) []wrong {
	var all []wrong
	for _, kind := range []int{0, 0x0806, 0x0801, 0x0008, 0x86dc, 0xdd86, 0x9100, 0x8864, 0xffff} {
		all = append(all,
			wrong{framed(tags, kind, nil), api.NotIP, true},
			wrong{framed(tags, kind, packet4(5, 6, 0, counted(20))), api.NotIP, true},
			wrong{framed(tags, kind, packet6(6, counted(20))), api.NotIP, true},
			wrong{framed(tags, kind, counted(60)), api.NotIP, true})
	}
	for cut := 1; cut <= 2+len(tags); cut++ {
		b := framed(tags, 0x0800, nil)
		all = append(all, wrong{b[:len(b)-cut], api.Short, false})
	}
	return all
}

// refused4 are refused for what they carry as IPv4.
func refused4(tags []byte) []wrong {
	right := packet4(6, 6, 0, counted(20))
	badSum := with(right, 8, right[8]+1)
	in := func(packet []byte) []byte { return frame4(tags, packet) }
	return []wrong{
		{in(nil), api.Short, false},
		{in(right[:19]), api.Short, false},
		{in(with(right, 0, 0x56)[:19]), api.Short, false}, // another version too
		{in(with(right, 0, 0x66)), api.BadHead, true},
		{in(with(right, 0, 0x44)), api.BadHead, true},
		{in(with(right, 0, 0x44)[:20]), api.BadHead, true},
		{in(with(right, 0, 0x56)[:20]), api.BadHead, true}, // hasn't its words either
		{in(packet6(6, counted(20))), api.BadHead, true},
		{in(right[:20]), api.Short, false},
		{in(right[:23]), api.Short, false},
		{in(badSum[:23]), api.Short, false},
		{in(with(right, 3, 23)), api.BadLength, true},
		{in(with(badSum, 3, 0)), api.BadLength, true},
		{in(with(right, 3, 45)), api.BadLength, false},
		{in(with(right, 2, 0xff)), api.BadLength, true},
		{in(right[:43]), api.BadLength, false},
		{in(badSum[:43]), api.BadLength, false},
		{in(badSum), api.BadSum, true},
		{in(with(packet4(5, 17, 0, nil), 10, 1)), api.BadSum, true}, // hasn't its ports either
		{in(packet4(5, 6, 0, nil)), api.Short, true},
		{in(packet4(6, 6, 0, counted(3))), api.Short, true},
		{in(packet4(15, 17, 0x2000, counted(3))), api.Short, true},
		{in(packet4(5, 1, 0, counted(1))), api.Short, true},
		{in(append(packet4(5, 1, 0, nil), counted(50)...)), api.Short, true},
	}
}

// refused6 are refused for what they carry as IPv6.
func refused6(tags []byte) []wrong {
	right := packet6(6, counted(20))
	heads := func(n int, last []byte) []byte {
		return packet6(0, slices.Repeat(more(0, 1), n), last)
	}
	in := func(packet []byte) []byte { return frame6(tags, packet) }
	return []wrong{
		{in(nil), api.Short, false},
		{in(right[:39]), api.Short, false},
		{in(with(right, 0, 0x45)[:39]), api.Short, false}, // another version too
		{in(with(right, 0, 0x40)), api.BadHead, true},
		{in(with(right, 0, 0x70)[:40]), api.BadHead, true}, // hasn't its bytes either
		{in(packet4(5, 6, 0, counted(20))), api.BadHead, true},
		{in(right[:40]), api.BadLength, false},
		{in(right[:59]), api.BadLength, false},
		{in(heads(9, more(6, 1))[:111]), api.BadLength, false}, // too many too
		{in(with(right, 4, 0xff)), api.BadLength, true},
		{in(heads(8, more(6, 1))), api.TooMany, true}, // hasn't its ports either
		{in(heads(8, nil)), api.TooMany, true},        // the ninth isn't there
		{in(heads(7, nil)), api.Short, true},
		{in(packet6(0)), api.Short, true},
		{in(packet6(44, piece(6, 0)[:7])), api.Short, true},
		{in(packet6(43, with(more(6, 2), 1, 2))), api.Short, true},
		{in(packet6(6)), api.Short, true},
		{in(packet6(17, counted(3))), api.Short, true},
		{in(packet6(60, more(17, 1), counted(3))), api.Short, true},
		{in(packet6(44, piece(6, 7), counted(3))), api.Short, true},
		{in(packet6(58, counted(1))), api.Short, true},
		{in(append(packet6(58), counted(50)...)), api.Short, true},
	}
}

// Each reason of the layers below, handed on as it is; with bytes behind it
// too, if they make no difference.
func TestEachReason(t *testing.T) {
	seen := map[api.Reason]int{}
	for _, c := range refused() {
		seen[c.why]++
		checkNot(t, c.b, c.why)
		if c.stays {
			for _, behind := range []int{1, 2, 46, 1000} {
				checkNot(t, append(slices.Clone(c.b), counted(behind)...), c.why)
			}
		}
	}
	for _, why := range []api.Reason{api.Short, api.NotIP, api.BadHead, api.BadSum, api.BadLength, api.TooMany} {
		if seen[why] == 0 {
			t.Errorf("no frame is refused for %d", why)
		}
	}
}

// some are frames of all kinds, none of them refused.
func some() [][]byte {
	var all [][]byte
	for _, tags := range tagged {
		all = append(all,
			frame4(tags, packet4(5, 6, 0x4000, counted(20))),
			frame4(tags, packet4(9, 17, 0x2000, counted(9))),
			frame4(tags, packet4(15, 1, 0, counted(8))),
			frame4(tags, packet4(5, 17, 0x17, counted(30))),
			frame4(tags, append(packet4(5, 50, 0, counted(3)), counted(12)...)),
			frame6(tags, packet6(6, counted(20))),
			frame6(tags, packet6(0, more(43, 1), more(44, 2), piece(60, 1), more(17, 1), counted(9))),
			frame6(tags, packet6(58, counted(8))),
			frame6(tags, packet6(44, piece(17, 0x88), counted(30))),
			frame6(tags, append(packet6(50, counted(3)), counted(12)...)))
	}
	return all
}

// Frames cut at each number of bytes, with spare room in which all of it
// stands, and without. What the packet doesn't need isn't missed but in Len.
func TestCutAtEachPlace(t *testing.T) {
	for _, b := range some() {
		whole, why := Parse(b)
		if why != api.Fine {
			t.Fatalf("%x: %d", b, why)
		}
		for n := range b {
			checkPlain(t, b[:n])
			checkPlain(t, slices.Clone(b[:n:n]))
			if got, why := Parse(b[:n]); why == api.Fine {
				got.Len = whole.Len
				if got != whole {
					t.Fatalf("%x: %v, not %v", b[:n], got, whole)
				}
			}
		}
	}
	cuts := frame4(nil, packet4(5, 6, 0, counted(20)))
	for n := range cuts {
		if n < 34 {
			checkNot(t, cuts[:n], api.Short)
		} else {
			checkNot(t, cuts[:n], api.BadLength)
		}
	}
	cuts = frame6(tagged[1], packet6(6, counted(20)))
	for n := range cuts {
		if n < 58 {
			checkNot(t, cuts[:n], api.Short)
		} else {
			checkNot(t, cuts[:n], api.BadLength)
		}
	}
}

// Len is the frame's at each number of bytes behind the packet, and nothing
// else changes.
func TestEachNumberOfBytesBehind(t *testing.T) {
	b4 := filled4(tagged[3], 76)
	b6 := filled6(tagged[3], 76)
	for size := 76; size <= api.MaxFrame; size++ {
		checkFine(t, b4, of4(size, 6, 0xa1a8, 0xafb6))
		checkFine(t, b6, of6(size, 6, 0xa1a8, 0xafb6))
		b4, b6 = append(b4, byte(size)), append(b6, byte(size))
	}
	checkNot(t, b4, api.TooLong)
	checkNot(t, b6, api.TooLong)
}

// The link's addresses and what the tags say make no difference.
func TestWhatMakesNoDifference(t *testing.T) {
	for _, at := range []int{0, 5, 6, 11, 14, 15, 18, 19} {
		for x := range 256 {
			checkFine(t, with(filled4(tagged[3], 90), at, byte(x)), of4(90, 6, 0xa1a8, 0xafb6))
			checkFine(t, with(filled6(tagged[3], 90), at, byte(x)), of6(90, 6, 0xa1a8, 0xafb6))
		}
	}
}

// Each byte of an address, at its place in the flow and in the prefix.
func TestEachByteOfTheAddresses(t *testing.T) {
	for x := range 256 {
		for k := range 4 {
			p := packet4(5, 6, 0, counted(20))
			p[12+k], p[16+k] = byte(x), byte(x)^0x5a
			want := of4(54, 6, 0xa1a8, 0xafb6)
			want.Flow.Src[k], want.Flow.Dst[k] = byte(x), byte(x)^0x5a
			if k < 3 {
				want.Prefix.Addr[k] = byte(x)
			}
			checkFine(t, frame4(nil, summed(p)), want)
		}
		for k := range 16 {
			p := packet6(6, counted(20))
			p[8+k], p[24+k] = byte(x), byte(x)^0x5a
			want := of6(74, 6, 0xa1a8, 0xafb6)
			want.Flow.Src[k], want.Flow.Dst[k] = byte(x), byte(x)^0x5a
			if k < 7 {
				want.Prefix.Addr[k] = byte(x)
			}
			checkFine(t, frame6(nil, p), want)
		}
	}
}

// Each byte of frames of all kinds, with each other value.
func TestEachByteChanged(t *testing.T) {
	for _, b := range some() {
		for at := range b {
			was := b[at]
			for x := range 256 {
				b[at] = byte(x)
				checkPlain(t, b)
			}
			b[at] = was
		}
	}
}

// The layers below, called by hand, answer the same.
func TestAsTheLayersBelow(t *testing.T) {
	frames := some()
	for _, c := range refused() {
		frames = append(frames, c.b)
	}
	for _, b := range frames {
		link, why := ether.Parse(b)
		if why != api.Fine {
			checkNot(t, b, why)
			continue
		}
		ask := inet.Parse
		if link.V6 {
			ask = inet6.Parse
		}
		n, why := ask(b[link.At:])
		if why != api.Fine {
			checkNot(t, b, why)
			continue
		}
		from, to, why := ports.Parse(link.V6, n)
		if why != api.Fine {
			checkNot(t, b, why)
			continue
		}
		f := api.Flow{V6: link.V6, Proto: n.Proto, Src: n.Src, Dst: n.Dst, SPort: from, DPort: to}
		checkFine(t, b, api.Packet{Flow: f, Prefix: Prefix(f), Len: len(b)})
	}
}

func TestWhatIsHandedInStaysAsItWas(t *testing.T) {
	frames := some()
	for _, c := range refused() {
		frames = append(frames, c.b)
	}
	frames = append(frames, counted(9217))
	for _, b := range frames {
		whole := slices.Concat(b, counted(64))
		before := slices.Clone(whole)
		Parse(whole[:len(b)])
		if !bytes.Equal(whole, before) {
			t.Fatalf("%x, and was %x", short(whole), short(before))
		}
	}
}

// A packet stays as it is when the frame's bytes are written over, and the
// next call answers of the new ones.
func TestNothingIsKept(t *testing.T) {
	b := slices.Grow(filled4(nil, 100), 20)
	p, _ := Parse(b)
	copy(b[:100], filled6(nil, 100))
	if p != of4(100, 6, 0xa1a8, 0xafb6) {
		t.Errorf("%v", p)
	}
	checkFine(t, b, of6(100, 6, 0xa1a8, 0xafb6))
	checkNot(t, b[:99], api.BadLength)
	checkNot(t, make([]byte, 9217), api.TooLong)
	checkFine(t, b, of6(100, 6, 0xa1a8, 0xafb6))
}

func TestDrawnFrames(t *testing.T) {
	draw := rand.New(rand.NewSource(12))
	frames := some()
	for _, c := range refused() {
		frames = append(frames, c.b)
	}
	for range 200000 {
		b := slices.Clone(frames[draw.Intn(len(frames))])
		for range draw.Intn(3) {
			if len(b) > 0 {
				b[draw.Intn(len(b))] = byte(draw.Intn(256))
			}
		}
		if draw.Intn(4) == 0 {
			b = b[:draw.Intn(len(b)+1)]
		}
		if draw.Intn(4) == 0 {
			b = append(b, counted(draw.Intn(40))...)
		}
		checkPlain(t, b)
	}
	for range 20000 {
		b := make([]byte, draw.Intn(100))
		draw.Read(b)
		checkPlain(t, b)
		checkPlain(t, frame4(nil, b))
		checkPlain(t, frame6(nil, b))
	}
}

func TestSeveralAtOnce(t *testing.T) {
	frames := some()
	var all sync.WaitGroup
	for range 8 {
		all.Go(func() {
			for range 50 {
				for _, b := range frames {
					want, _ := plain(b)
					got, why := Parse(b)
					if why != api.Fine || got != want || !bytes.Equal(Key(got.Flow), plainKey(want.Flow)) {
						t.Errorf("%x: %v %d", b, got, why)
						return
					}
				}
			}
		})
	}
	all.Wait()
}

func FuzzAgainstThePlainWay(f *testing.F) {
	for _, b := range some() {
		f.Add(b)
	}
	for _, c := range refused() {
		f.Add(c.b)
	}
	f.Add(make([]byte, 9216))
	f.Add(make([]byte, 9217))
	f.Fuzz(func(t *testing.T, b []byte) {
		before := slices.Clone(b)
		checkPlain(t, b)
		if !bytes.Equal(b, before) {
			t.Fatalf("%x, and was %x", b, before)
		}
	})
}
