package frame

import (
	"bytes"
	"math/rand"
	"slices"
	"testing"

	"bailiff/api"
)

// flow4 and flow6 are flows no two bytes of which are the same.
var (
	flow4 = api.Flow{Proto: 6, Src: src4, Dst: dst4, SPort: 0xc1d2, DPort: 0xe3f4}
	flow6 = api.Flow{V6: true, Proto: 58, Src: src6, Dst: dst6, SPort: 0xc1d2, DPort: 0xe3f4}
)

// noise4 is flow4, with what isn't of an IPv4 address behind both of them.
func noise4() api.Flow {
	f := flow4
	copy(f.Src[4:], counted(12))
	copy(f.Dst[4:], bytes.Repeat([]byte{0xff}, 12))
	return f
}

// plainKey is the chapter's words once more, byte by byte.
func plainKey(f api.Flow) []byte {
	size := 4
	if f.V6 {
		size = 16
	}
	key := make([]byte, 2+2*size+4)
	key[0], key[1] = 4, f.Proto
	if f.V6 {
		key[0] = 6
	}
	for k := range size {
		key[2+k], key[2+size+k] = f.Src[k], f.Dst[k]
	}
	key[2+2*size], key[3+2*size] = byte(f.SPort/256), byte(f.SPort%256)
	key[4+2*size], key[5+2*size] = byte(f.DPort/256), byte(f.DPort%256)
	return key
}

// checkKey fails unless the flow has that key.
func checkKey(t *testing.T, f api.Flow, want ...byte) {
	t.Helper()
	if got := Key(f); !bytes.Equal(got, want) {
		t.Fatalf("%v: %x, not %x", f, got, want)
	}
}

// checkPrefix fails unless the flow has that prefix.
func checkPrefix(t *testing.T, f api.Flow, want api.Prefix) {
	t.Helper()
	if got := Prefix(f); got != want {
		t.Fatalf("%v: %v, not %v", f, got, want)
	}
}

// drawn is a flow all of which is noise, behind IPv4 addresses too.
func drawn(draw *rand.Rand) api.Flow {
	f := api.Flow{V6: draw.Intn(2) == 0, Proto: byte(draw.Intn(256)), SPort: uint16(draw.Intn(1 << 16)), DPort: uint16(draw.Intn(1 << 16))}
	draw.Read(f.Src[:])
	draw.Read(f.Dst[:])
	return f
}

func TestKeysByHand(t *testing.T) {
	checkKey(t, api.Flow{}, 4, 0, 0, 0, 0, 0, 0, 0, 0, 0, 0, 0, 0, 0)
	checkKey(t, api.Flow{V6: true}, append([]byte{6}, make([]byte, 37)...)...)
	checkKey(t, flow4, 4, 6, 10, 200, 30, 41, 192, 168, 33, 44, 0xc1, 0xd2, 0xe3, 0xf4)
	checkKey(t, noise4(), 4, 6, 10, 200, 30, 41, 192, 168, 33, 44, 0xc1, 0xd2, 0xe3, 0xf4)
	checkKey(t, flow6,
		6, 58,
		0x20, 1, 0xd, 0xb8, 5, 6, 7, 8, 9, 10, 11, 12, 14, 15, 16, 17,
		0xfe, 0x80, 0xa1, 0xa2, 0xa3, 0xa4, 0xa5, 0xa6, 0xa7, 0xa8, 0xa9, 0xaa, 0xab, 0xac, 0xad, 0xae,
		0xc1, 0xd2, 0xe3, 0xf4)
	checkKey(t, api.Flow{Proto: 255, SPort: 80, DPort: 258}, 4, 255, 0, 0, 0, 0, 0, 0, 0, 0, 0, 80, 1, 2)
	checkKey(t, api.Flow{SPort: 0xffff, DPort: 0xff00}, 4, 0, 0, 0, 0, 0, 0, 0, 0, 0, 0xff, 0xff, 0xff, 0)
}

// The protocol tells nothing of a flow's version.
func TestEachProtocolInAKey(t *testing.T) {
	for proto := range 256 {
		f, g := flow4, flow6
		f.Proto, g.Proto = byte(proto), byte(proto)
		checkKey(t, f, plainKey(f)...)
		checkKey(t, g, plainKey(g)...)
		if k := Key(f); len(k) != 14 || k[0] != 4 || k[1] != byte(proto) {
			t.Fatalf("%x", k)
		}
		if k := Key(g); len(k) != 38 || k[0] != 6 || k[1] != byte(proto) {
			t.Fatalf("%x", k)
		}
	}
}

func TestEachPortInAKey(t *testing.T) {
	for k := range 1 << 16 {
		f, g := flow4, flow6
		f.SPort, f.DPort = uint16(k), ^uint16(k)
		g.SPort, g.DPort = uint16(k), ^uint16(k)
		checkKey(t, f, plainKey(f)...)
		checkKey(t, g, plainKey(g)...)
	}
}

// Each byte of an address stands at its own place, and nowhere else; of IPv4
// the bytes from the fourth on stand nowhere.
func TestEachByteOfAnAddressInAKey(t *testing.T) {
	for k := range 16 {
		for x := 1; x < 256; x++ {
			for _, v6 := range []bool{false, true} {
				size := 4
				if v6 {
					size = 16
				}
				none := Key(api.Flow{V6: v6})
				s, d := api.Flow{V6: v6}, api.Flow{V6: v6}
				s.Src[k], d.Dst[k] = byte(x), byte(x)
				if k >= size {
					checkKey(t, s, none...)
					checkKey(t, d, none...)
					continue
				}
				checkKey(t, s, with(none, 2+k, byte(x))...)
				checkKey(t, d, with(none, 2+size+k, byte(x))...)
			}
		}
	}
}

// Flows that differ in one bit of one member alone have keys that all differ.
func TestOneMemberThatDiffers(t *testing.T) {
	for _, f := range []api.Flow{flow4, noise4(), flow6, {}, {V6: true}} {
		others := map[string]int{string(Key(f)): 1}
		differ := func(change func(*api.Flow)) {
			g := f
			change(&g)
			others[string(Key(g))]++
		}
		size := 4
		if f.V6 {
			size = 16
		}
		for bit := range 8 {
			differ(func(g *api.Flow) { g.Proto ^= 1 << bit })
			for k := range size {
				differ(func(g *api.Flow) { g.Src[k] ^= 1 << bit })
				differ(func(g *api.Flow) { g.Dst[k] ^= 1 << bit })
			}
		}
		for bit := range 16 {
			differ(func(g *api.Flow) { g.SPort ^= 1 << bit })
			differ(func(g *api.Flow) { g.DPort ^= 1 << bit })
		}
		differ(func(g *api.Flow) { g.V6 = !g.V6 })
		if want := 1 + 8 + 16*size + 32 + 1; len(others) != want {
			t.Errorf("%v: %d keys, not %d", f, len(others), want)
		}
	}
}

// Who talks isn't who is talked to: with both sides changed the key is another.
func TestBothSidesChanged(t *testing.T) {
	for _, f := range []api.Flow{flow4, flow6} {
		g := f
		g.Src, g.Dst = f.Dst, f.Src
		if bytes.Equal(Key(f), Key(g)) {
			t.Errorf("%v", f)
		}
		g = f
		g.SPort, g.DPort = f.DPort, f.SPort
		if bytes.Equal(Key(f), Key(g)) {
			t.Errorf("%v", f)
		}
	}
}

// Written over, its spare room too, or added to, a key changes no other one.
func TestKeysAreNewMemory(t *testing.T) {
	for _, f := range []api.Flow{flow4, flow6} {
		want := plainKey(f)
		one, other := Key(f), Key(f)
		clear(one[:cap(one)])
		_ = append(one, 9, 9, 9)
		if !bytes.Equal(other, want) {
			t.Errorf("%x, not %x", other, want)
		}
		checkKey(t, f, want...)
		kept := Key(f)
		Key(flow6)
		Key(flow4)
		Parse(filled4(nil, 100))
		if !bytes.Equal(kept, want) {
			t.Errorf("%x, not %x", kept, want)
		}
	}
}

func TestPrefixesByHand(t *testing.T) {
	checkPrefix(t, api.Flow{}, api.Prefix{})
	checkPrefix(t, api.Flow{V6: true}, api.Prefix{V6: true})
	checkPrefix(t, flow4, api.Prefix{Addr: [7]byte{10, 200, 30}})
	checkPrefix(t, noise4(), api.Prefix{Addr: [7]byte{10, 200, 30}})
	checkPrefix(t, flow6, api.Prefix{V6: true, Addr: [7]byte{0x20, 1, 0xd, 0xb8, 5, 6, 7}})
}

// Each byte of Src stands in the prefix at its own place, or nowhere.
func TestEachByteOfSrcInAPrefix(t *testing.T) {
	for k := range 16 {
		for x := range 256 {
			for _, v6 := range []bool{false, true} {
				size := 3
				if v6 {
					size = 7
				}
				f, want := api.Flow{V6: v6}, api.Prefix{V6: v6}
				f.Src[k] = byte(x)
				if k < size {
					want.Addr[k] = byte(x)
				}
				checkPrefix(t, f, want)
			}
		}
	}
}

// Nothing but the version and Src makes a difference to a prefix.
func TestWhatIsNotOfAPrefix(t *testing.T) {
	ones := [16]byte(bytes.Repeat([]byte{0xff}, 16))
	for _, f := range []api.Flow{flow4, flow6} {
		want := Prefix(f)
		for proto := range 256 {
			f.Proto = byte(proto)
			f.Dst[proto%16]++
			f.SPort, f.DPort = f.SPort*3+1, f.DPort*5+1
			checkPrefix(t, f, want)
		}
		f.Dst, f.SPort, f.DPort = ones, 0xffff, 0xffff
		checkPrefix(t, f, want)
	}
	all := api.Flow{Proto: 255, Src: ones, Dst: ones, SPort: 0xffff, DPort: 0xffff}
	checkPrefix(t, all, api.Prefix{Addr: [7]byte{255, 255, 255}})
	all.V6 = true
	checkPrefix(t, all, api.Prefix{V6: true, Addr: [7]byte(ones[:7])})
}

// The same first bytes in both versions are two prefixes, and two keys.
func TestBothVersions(t *testing.T) {
	f, g := api.Flow{Src: src4}, api.Flow{V6: true, Src: src4}
	if Prefix(f) == Prefix(g) || bytes.Equal(Key(f), Key(g)) {
		t.Errorf("%v %v", Prefix(f), Key(f))
	}
	if (Prefix(f).Addr != [7]byte{10, 200, 30}) || (Prefix(g).Addr != [7]byte{10, 200, 30, 41}) {
		t.Errorf("%v %v", Prefix(f), Prefix(g))
	}
}

func TestDrawnFlows(t *testing.T) {
	draw := rand.New(rand.NewSource(13))
	for range 100000 {
		f := drawn(draw)
		checkKey(t, f, plainKey(f)...)
		want := api.Prefix{V6: f.V6}
		for k := range want.Addr {
			if f.V6 || k < 3 {
				want.Addr[k] = f.Src[k]
			}
		}
		checkPrefix(t, f, want)
	}
}

// A frame's packet has the prefix of its flow, and its key has all of the
// flow's bytes as they stood in the frame.
func TestKeysAndPrefixesOfFrames(t *testing.T) {
	for _, b := range some() {
		p, why := Parse(b)
		if why != api.Fine {
			t.Fatalf("%x: %d", b, why)
		}
		checkPrefix(t, p.Flow, p.Prefix)
		want := slices.Concat([]byte{4}, []byte{p.Flow.Proto}, src4[:4], dst4[:4])
		if p.Flow.V6 {
			want = slices.Concat([]byte{6}, []byte{p.Flow.Proto}, src6[:], dst6[:])
		}
		if k := Key(p.Flow); !bytes.HasPrefix(k, want) || len(k) != len(want)+4 {
			t.Fatalf("%x: %x", b, k)
		}
	}
}
