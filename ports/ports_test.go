package ports

import (
	"bytes"
	"math/rand"
	"slices"
	"sync"
	"testing"

	"bailiff/api"
	"bailiff/inet"
)

// versions are IPv4 and IPv6.
var versions = []bool{false, true}

// counted is a body of n bytes that differ from their neighbours, the highest
// bits of the first ones being set and not set in turn.
func counted(n int) []byte {
	body := make([]byte, n)
	for k := range body {
		body[k] = byte(k*0x85 + 0xa1)
	}
	return body
}

// first is what a packet of this protocol and body says, if it is a first
// fragment; later, if it is a later one.
func first(proto uint8, body ...byte) inet.Net {
	return inet.Net{Proto: proto, Body: body, First: true}
}

func later(proto uint8, body ...byte) inet.Net {
	return inet.Net{Proto: proto, Body: body}
}

// checkFine fails unless n is Fine, and has these ports.
func checkFine(t *testing.T, v6 bool, n inet.Net, from, to uint16) {
	t.Helper()
	if a, b, why := Parse(v6, n); a != from || b != to || why != api.Fine {
		t.Fatalf("v6 %t, %v: %d %d %d, not %d %d", v6, n, a, b, why, from, to)
	}
}

// checkShort fails unless n is Short, and nothing stands beside it.
func checkShort(t *testing.T, v6 bool, n inet.Net) {
	t.Helper()
	if a, b, why := Parse(v6, n); a != 0 || b != 0 || why != api.Short {
		t.Fatalf("v6 %t, %v: %d %d %d, not Short", v6, n, a, b, why)
	}
}

// plain is the chapter's words once more, protocol by protocol, with numbers
// multiplied where the cursor shifts.
func plain(v6 bool, n inet.Net) (uint16, uint16, api.Reason) {
	if !n.First {
		return 0, 0, api.Fine
	}
	b := n.Body
	both := n.Proto == 6 || n.Proto == 17
	one := n.Proto == 1 && !v6 || n.Proto == 58 && v6
	switch {
	case both && len(b) >= 4:
		return 256*uint16(b[0]) + uint16(b[1]), 256*uint16(b[2]) + uint16(b[3]), api.Fine
	case one && len(b) >= 2:
		return 256*uint16(b[0]) + uint16(b[1]), 0, api.Fine
	case both, one:
		return 0, 0, api.Short
	}
	return 0, 0, api.Fine
}

// checkPlain fails unless n is answered as the plain way does.
func checkPlain(t *testing.T, v6 bool, n inet.Net) {
	t.Helper()
	if from, to, why := plain(v6, n); why == api.Fine {
		checkFine(t, v6, n, from, to)
	} else {
		checkShort(t, v6, n)
	}
}

func TestTheChaptersExample(t *testing.T) {
	for _, v6 := range versions {
		checkFine(t, v6, first(6, 0, 80, 1, 2), 80, 258)
	}
}

func TestPortsByHand(t *testing.T) {
	for _, v6 := range versions {
		checkFine(t, v6, first(6, 0xc0, 1, 0, 22), 0xc001, 22)
		checkFine(t, v6, first(17, 0, 53, 0xff, 0xfe), 53, 0xfffe)
		checkFine(t, v6, first(47, 1, 2, 3, 4), 0, 0)
		checkFine(t, v6, later(6, 1, 2, 3, 4), 0, 0)
	}
	checkFine(t, false, first(1, 8, 0, 0x12, 0x34, 1, 2), 0x800, 0)
	checkFine(t, false, first(58, 8, 0, 0x12, 0x34, 1, 2), 0, 0)
	checkFine(t, true, first(1, 128, 0, 0x12, 0x34, 1, 2), 0, 0)
	checkFine(t, true, first(58, 128, 0, 0x12, 0x34, 1, 2), 0x8000, 0)
}

// TCP and UDP, in both versions, with bodies of each number of bytes.
func TestBothPorts(t *testing.T) {
	for _, v6 := range versions {
		for _, proto := range []uint8{6, 17} {
			checkShort(t, v6, inet.Net{Proto: proto, First: true})
			checkShort(t, v6, inet.Net{Proto: proto, Body: []byte{}, First: true})
			checkShort(t, v6, first(proto, 0xa1))
			checkShort(t, v6, first(proto, 0xa1, 2))
			checkShort(t, v6, first(proto, 0xa1, 2, 3))
			checkFine(t, v6, first(proto, 0xa1, 2, 3, 4), 0xa102, 0x304)
			for n := 4; n < 1500; n++ {
				checkFine(t, v6, first(proto, counted(n)...), 0xa126, 0xab30)
			}
			checkFine(t, v6, first(proto, counted(70000)...), 0xa126, 0xab30)
		}
	}
}

// ICMP of its own version, with bodies of each number of bytes.
func TestICMPOfItsOwnVersion(t *testing.T) {
	for _, c := range []struct {
		v6    bool
		proto uint8
	}{{false, 1}, {true, 58}} {
		checkShort(t, c.v6, inet.Net{Proto: c.proto, First: true})
		checkShort(t, c.v6, inet.Net{Proto: c.proto, Body: []byte{}, First: true})
		checkShort(t, c.v6, first(c.proto, 0xa1))
		checkFine(t, c.v6, first(c.proto, 0xa1, 2), 0xa102, 0)
		checkFine(t, c.v6, first(c.proto, 0xa1, 2, 3), 0xa102, 0)
		checkFine(t, c.v6, first(c.proto, 0xa1, 2, 3, 4), 0xa102, 0)
		for n := 2; n < 1500; n++ {
			checkFine(t, c.v6, first(c.proto, counted(n)...), 0xa126, 0)
		}
		checkFine(t, c.v6, first(c.proto, counted(70000)...), 0xa126, 0)
	}
}

// ICMP of the other version is a protocol like others: no ports, never Short.
func TestICMPOfTheOtherVersion(t *testing.T) {
	for _, c := range []struct {
		v6    bool
		proto uint8
	}{{true, 1}, {false, 58}} {
		checkFine(t, c.v6, inet.Net{Proto: c.proto, First: true}, 0, 0)
		checkFine(t, c.v6, inet.Net{Proto: c.proto, Body: []byte{}, First: true}, 0, 0)
		for n := 1; n < 100; n++ {
			checkFine(t, c.v6, first(c.proto, counted(n)...), 0, 0)
		}
	}
}

// Each protocol that has no ports, with and without a body.
func TestEachOtherProtocol(t *testing.T) {
	for _, v6 := range versions {
		for proto := range 256 {
			p := uint8(proto)
			if p == 6 || p == 17 || p == 1 && !v6 || p == 58 && v6 {
				continue
			}
			checkFine(t, v6, inet.Net{Proto: p, First: true}, 0, 0)
			checkFine(t, v6, inet.Net{Proto: p, Body: []byte{}, First: true}, 0, 0)
			for n := 1; n < 10; n++ {
				checkFine(t, v6, first(p, counted(n)...), 0, 0)
			}
			checkFine(t, v6, first(p, counted(1400)...), 0, 0)
		}
	}
}

// A later fragment has no ports, and is never Short, whatever its protocol.
func TestLaterFragments(t *testing.T) {
	for _, v6 := range versions {
		for proto := range 256 {
			p := uint8(proto)
			checkFine(t, v6, inet.Net{Proto: p}, 0, 0)
			checkFine(t, v6, inet.Net{Proto: p, Body: []byte{}}, 0, 0)
			for n := 1; n < 10; n++ {
				checkFine(t, v6, later(p, counted(n)...), 0, 0)
			}
			checkFine(t, v6, later(p, counted(1400)...), 0, 0)
		}
	}
}

// Each port, and beside it another one all of whose bits differ.
func TestEachPort(t *testing.T) {
	for _, v6 := range versions {
		icmp := uint8(1)
		if v6 {
			icmp = 58
		}
		for k := range 1 << 16 {
			from, to := uint16(k), ^uint16(k)
			body := []byte{byte(k >> 8), byte(k), ^byte(k >> 8), ^byte(k)}
			checkFine(t, v6, first(6, body...), from, to)
			checkFine(t, v6, first(17, body...), from, to)
			checkFine(t, v6, first(icmp, body...), from, 0)
			checkFine(t, v6, first(icmp, body[:2]...), from, 0)
		}
	}
}

// Numbers at their edges, each of them beside each.
func TestEdgesBesideEachOther(t *testing.T) {
	edges := []uint16{0, 1, 127, 128, 255, 256, 0x7fff, 0x8000, 0x80ff, 0xff00, 0xff7f, 0xffff}
	for _, from := range edges {
		for _, to := range edges {
			body := []byte{byte(from >> 8), byte(from), byte(to >> 8), byte(to)}
			for _, v6 := range versions {
				checkFine(t, v6, first(6, body...), from, to)
				checkFine(t, v6, first(17, body...), from, to)
			}
			checkFine(t, false, first(1, body...), from, 0)
			checkFine(t, true, first(58, body...), from, 0)
		}
	}
}

// Neither the addresses nor what stands behind the ports makes a difference.
func TestAddressesAndWhatStandsBehind(t *testing.T) {
	ones := [16]byte(bytes.Repeat([]byte{0xff}, 16))
	some := [16]byte{6, 17, 1, 58, 15: 9}
	for _, v6 := range versions {
		for proto := range 256 {
			for n := range 7 {
				for _, isFirst := range versions {
					net := inet.Net{Proto: uint8(proto), Body: counted(n), First: isFirst}
					checkPlain(t, v6, net)
					net.Src, net.Dst = ones, some
					checkPlain(t, v6, net)
					net.Src, net.Dst = some, ones
					checkPlain(t, v6, net)
				}
			}
		}
		for x := range 256 {
			body := []byte{1, 2, 3, 4, byte(x), byte(x)}
			checkFine(t, v6, first(6, body...), 258, 772)
			checkFine(t, v6, first(17, body[:5]...), 258, 772)
		}
	}
	for x := range 256 {
		checkFine(t, false, first(1, 1, 2, byte(x), byte(x)), 258, 0)
		checkFine(t, true, first(58, 1, 2, byte(x)), 258, 0)
	}
}

// Bytes in the body's spare room are not of the body.
func TestSpareRoomMakesNoDifference(t *testing.T) {
	whole := counted(20)
	for _, v6 := range versions {
		for proto := range 256 {
			for n := range 8 {
				for room := n; room <= len(whole); room++ {
					checkPlain(t, v6, inet.Net{Proto: uint8(proto), Body: whole[:n:room], First: true})
				}
			}
		}
	}
}

func TestWhatIsHandedInStaysAsItWas(t *testing.T) {
	for _, v6 := range versions {
		for proto := range 256 {
			for n := range 8 {
				whole := counted(12)
				net := inet.Net{Proto: uint8(proto), Src: [16]byte{1, 2}, Dst: [16]byte{3, 4}, Body: whole[:n], First: true}
				Parse(v6, net)
				if !slices.Equal(whole, counted(12)) {
					t.Fatalf("v6 %t, protocol %d, %d bytes: %x", v6, proto, n, whole)
				}
			}
		}
	}
}

// A body that is changed behind a call is asked anew.
func TestNothingIsKept(t *testing.T) {
	net := first(6, 1, 2, 3, 4)
	checkFine(t, false, net, 258, 772)
	copy(net.Body, []byte{0xff, 0xfe, 0xfd, 0xfc})
	checkFine(t, false, net, 0xfffe, 0xfdfc)
	net.Body = net.Body[:3]
	checkShort(t, false, net)
	checkFine(t, false, first(6, 0, 80, 1, 2), 80, 258)
	checkFine(t, true, inet.Net{}, 0, 0)
	checkFine(t, false, inet.Net{}, 0, 0)
}

func TestDrawnBodies(t *testing.T) {
	draw := rand.New(rand.NewSource(11))
	protos := []uint8{1, 6, 17, 58}
	for range 200000 {
		net := inet.Net{Proto: protos[draw.Intn(len(protos))], Body: make([]byte, draw.Intn(9)), First: draw.Intn(8) > 0}
		if draw.Intn(8) == 0 {
			net.Proto = uint8(draw.Intn(256))
		}
		draw.Read(net.Body)
		draw.Read(net.Src[:])
		draw.Read(net.Dst[:])
		checkPlain(t, draw.Intn(2) == 0, net)
	}
}

func TestSeveralAtOnce(t *testing.T) {
	body := counted(100)
	var all sync.WaitGroup
	for range 8 {
		all.Go(func() {
			for k := range 4000 {
				net := inet.Net{Proto: uint8(k), Body: body[:k%9], First: k%5 > 0}
				v6 := k%2 == 0
				a, b, why := Parse(v6, net)
				if from, to, want := plain(v6, net); a != from || b != to || why != want {
					t.Errorf("v6 %t, %v: %d %d %d", v6, net, a, b, why)
					return
				}
			}
		})
	}
	all.Wait()
}

func FuzzAgainstThePlainWay(f *testing.F) {
	for _, proto := range []uint8{0, 1, 6, 17, 58, 255} {
		for n := range 6 {
			f.Add(n%2 == 0, proto, true, counted(n))
			f.Add(n%2 > 0, proto, n > 2, counted(n))
		}
	}
	f.Fuzz(func(t *testing.T, v6 bool, proto uint8, isFirst bool, body []byte) {
		before := slices.Clone(body)
		checkPlain(t, v6, inet.Net{Proto: proto, Body: body, First: isFirst})
		if !bytes.Equal(body, before) {
			t.Fatalf("%x, and was %x", body, before)
		}
	})
}
