package frame

import (
	"bytes"
	"slices"
	"testing"

	"bailiff/api"
)

// Addresses no two bytes of which are the same. Those of IPv4 have noughts
// behind them.
var (
	src4 = [16]byte{10, 200, 30, 41}
	dst4 = [16]byte{192, 168, 33, 44}
	src6 = [16]byte{0x20, 1, 0xd, 0xb8, 5, 6, 7, 8, 9, 10, 11, 12, 14, 15, 16, 17}
	dst6 = [16]byte{0xfe, 0x80, 0xa1, 0xa2, 0xa3, 0xa4, 0xa5, 0xa6, 0xa7, 0xa8, 0xa9, 0xaa, 0xab, 0xac, 0xad, 0xae}
)

// The tags that stand ahead of a type: none, one and two, of both kinds.
var tagged = [][]byte{
	nil,
	{0x81, 0, 0xe0, 5},
	{0x88, 0xa8, 0x08, 0x00},
	{0x88, 0xa8, 0, 9, 0x81, 0, 0x86, 0xdd},
	{0x81, 0, 0x81, 0, 0x81, 0, 0x81, 0},
}

// counted is n bytes that differ from their neighbours.
func counted(n int) []byte {
	b := make([]byte, n)
	for k := range b {
		b[k] = byte(k*7 + 0xa1)
	}
	return b
}

// framed is a frame with these tags and this type, and what it carries. Its
// addresses are noise: they are those of the link, and make no difference.
func framed(tags []byte, kind int, carried []byte) []byte {
	return slices.Concat(counted(12), tags, []byte{byte(kind >> 8), byte(kind)}, carried)
}

// frame4 and frame6 are frames with these tags, and a packet in them.
func frame4(tags, packet []byte) []byte { return framed(tags, 0x0800, packet) }
func frame6(tags, packet []byte) []byte { return framed(tags, 0x86dd, packet) }

// packet4 is an IPv4 packet with a right sum, whose head has so many words, and
// whose bytes 6 and 7 (flags, and the fragment's place) are these bits.
func packet4(words int, proto byte, bits int, body []byte) []byte {
	all := 4*words + len(body)
	b := []byte{
		byte(0x40 + words), 0x1e, byte(all >> 8), byte(all),
		0xbe, 0xef, byte(bits >> 8), byte(bits), 63, proto, 0, 0,
	}
	b = slices.Concat(b, src4[:4], dst4[:4])
	for len(b) < 4*words {
		b = append(b, byte(0x90+len(b)))
	}
	return summed(append(b, body...))
}

// summed is the packet, whose head's sum is made right.
func summed(b []byte) []byte {
	b[10], b[11] = 0, 0
	missing := 0xffff - remainder(b[:4*int(b[0]&15)])
	b[10], b[11] = byte(missing>>8), byte(missing)
	return b
}

// remainder is what is left of the bytes, as one number, when it is divided by
// ffff: 0, if a head's sum is right.
func remainder(b []byte) int {
	left := 0
	for _, x := range b {
		left = (left*256 + int(x)) % 0xffff
	}
	return left
}

// packet6 is an IPv6 packet of this next, and all the parts behind its head.
func packet6(next byte, parts ...[]byte) []byte {
	behind := slices.Concat(parts...)
	b := []byte{0x6b, 0xcd, 0xef, 0x12, byte(len(behind) >> 8), byte(len(behind)), next, 63}
	return slices.Concat(b, src6[:], dst6[:], behind)
}

// more is one more head of IPv6, of so many times 8 bytes.
func more(next byte, units int) []byte {
	b := counted(8 * units)
	b[0], b[1] = next, byte(units-1)
	return b
}

// piece is a fragment's head of IPv6, with these 16 bits of its place and what
// stands below it.
func piece(next byte, bits int) []byte {
	return []byte{next, 0xff, byte(bits >> 8), byte(bits), 0xca, 0xfe, 0xba, 0xbe}
}

// with is b with another byte at a place, and all else as it was.
func with(b []byte, at int, x byte) []byte {
	b = slices.Clone(b)
	b[at] = x
	return b
}

// of4 and of6 are the packets of frames of packet4 and packet6.
func of4(size int, proto byte, from, to uint16) api.Packet {
	return api.Packet{
		Flow:   api.Flow{Proto: proto, Src: src4, Dst: dst4, SPort: from, DPort: to},
		Prefix: api.Prefix{Addr: [7]byte{10, 200, 30}},
		Len:    size,
	}
}

func of6(size int, proto byte, from, to uint16) api.Packet {
	return api.Packet{
		Flow:   api.Flow{V6: true, Proto: proto, Src: src6, Dst: dst6, SPort: from, DPort: to},
		Prefix: api.Prefix{V6: true, Addr: [7]byte{0x20, 1, 0xd, 0xb8, 5, 6, 7}},
		Len:    size,
	}
}

func short(b []byte) []byte {
	return b[:min(len(b), 120)]
}

// checkFine fails unless the frame is Fine, and has that packet.
func checkFine(t *testing.T, frame []byte, want api.Packet) {
	t.Helper()
	if got, why := Parse(frame); why != api.Fine || got != want {
		t.Fatalf("%d bytes, %x: %v %d, not %v", len(frame), short(frame), got, why, want)
	}
}

// checkNot fails unless the frame is answered by that reason, and nothing
// beside it.
func checkNot(t *testing.T, frame []byte, want api.Reason) {
	t.Helper()
	if got, why := Parse(frame); why != want || got != (api.Packet{}) {
		t.Fatalf("%d bytes, %x: %v %d, not %d", len(frame), short(frame), got, why, want)
	}
}

// checkPlain fails unless the frame is answered as the plain way does.
func checkPlain(t *testing.T, frame []byte) {
	t.Helper()
	if want, why := plain(frame); why == api.Fine {
		checkFine(t, frame, want)
	} else {
		checkNot(t, frame, why)
	}
}

// plain is the words of all five chapters once more, without the layers below.
// Places are counted from the frame's beginning.
func plain(b []byte) (api.Packet, api.Reason) {
	if len(b) > 9216 {
		return api.Packet{}, api.TooLong
	}
	at := 14
	for tags := 0; ; tags++ {
		if len(b) < at {
			return api.Packet{}, api.Short
		}
		if kind := string(b[at-2 : at]); kind != "\x81\x00" && kind != "\x88\xa8" {
			break
		}
		if tags == 2 {
			return api.Packet{}, api.TooMany
		}
		at += 4
	}
	switch string(b[at-2 : at]) {
	case "\x08\x00":
		return plain4(b, at)
	case "\x86\xdd":
		return plain6(b, at)
	}
	return api.Packet{}, api.NotIP
}

// plain4 goes on at a head of IPv4.
func plain4(b []byte, at int) (api.Packet, api.Reason) {
	if len(b) < at+20 {
		return api.Packet{}, api.Short
	}
	body := at + 4*(int(b[at])%16)
	end := at + 256*int(b[at+2]) + int(b[at+3])
	switch {
	case b[at]/16 != 4, body < at+20:
		return api.Packet{}, api.BadHead
	case len(b) < body:
		return api.Packet{}, api.Short
	case end < body, end > len(b):
		return api.Packet{}, api.BadLength
	case remainder(b[at:body]) != 0:
		return api.Packet{}, api.BadSum
	}
	p := api.Packet{Len: len(b)}
	p.Flow.Proto = b[at+9]
	for k := range 4 {
		p.Flow.Src[k], p.Flow.Dst[k] = b[at+12+k], b[at+16+k]
	}
	for k := range 3 {
		p.Prefix.Addr[k] = b[at+12+k]
	}
	if b[at+6]%32 != 0 || b[at+7] != 0 {
		return p, api.Fine
	}
	return plainPorts(p, b[body:end], 1)
}

// plain6 goes on at a head of IPv6.
func plain6(b []byte, at int) (api.Packet, api.Reason) {
	if len(b) < at+40 {
		return api.Packet{}, api.Short
	}
	end := at + 40 + 256*int(b[at+4]) + int(b[at+5])
	switch {
	case b[at]/16 != 6:
		return api.Packet{}, api.BadHead
	case len(b) < end:
		return api.Packet{}, api.BadLength
	}
	p := api.Packet{Len: len(b)}
	p.Flow.V6, p.Prefix.V6 = true, true
	for k := range 16 {
		p.Flow.Src[k], p.Flow.Dst[k] = b[at+8+k], b[at+24+k]
	}
	for k := range 7 {
		p.Prefix.Addr[k] = b[at+8+k]
	}
	return plainHeads(p, b[:end], b[at+6], at+40, 1)
}

// plainHeads goes on at the head that next tells of, at that place; if it is
// one, it is the so manieth.
func plainHeads(p api.Packet, b []byte, next byte, at, count int) (api.Packet, api.Reason) {
	p.Flow.Proto = next
	if bytes.IndexByte([]byte{0, 43, 44, 60}, next) < 0 {
		return plainPorts(p, b[at:], 58)
	}
	switch {
	case count > 8:
		return api.Packet{}, api.TooMany
	case at+8 > len(b):
		return api.Packet{}, api.Short
	case next == 44 && (b[at+2] != 0 || b[at+3]/8 != 0):
		p.Flow.Proto = b[at]
		return p, api.Fine
	case next == 44:
		return plainHeads(p, b, b[at], at+8, count+1)
	case at+8+8*int(b[at+1]) > len(b):
		return api.Packet{}, api.Short
	}
	return plainHeads(p, b, b[at], at+8+8*int(b[at+1]), count+1)
}

// plainPorts is the packet with the ports of its body; icmp is what ICMP's
// number is in its version.
func plainPorts(p api.Packet, body []byte, icmp byte) (api.Packet, api.Reason) {
	both := p.Flow.Proto == 6 || p.Flow.Proto == 17
	one := p.Flow.Proto == icmp
	switch {
	case both && len(body) < 4, one && len(body) < 2:
		return api.Packet{}, api.Short
	case both:
		p.Flow.DPort = 256*uint16(body[2]) + uint16(body[3])
		fallthrough
	case one:
		p.Flow.SPort = 256*uint16(body[0]) + uint16(body[1])
	}
	return p, api.Fine
}
