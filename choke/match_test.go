package choke

import (
	"math/rand"
	"slices"
	"sync"
	"testing"

	"bailiff/api"
)

// Flows of noughts, of ones, and flows no two bytes of which are the same.
var (
	nought4 = api.Flow{}
	nought6 = api.Flow{V6: true}
	full4   = api.Flow{Proto: 255, Src: sixteen(0xff), Dst: sixteen(0xff), SPort: 0xffff, DPort: 0xffff}
	full6   = api.Flow{V6: true, Proto: 255, Src: sixteen(0xff), Dst: sixteen(0xff), SPort: 0xffff, DPort: 0xffff}
	flow4   = api.Flow{
		Proto: 6,
		Src:   [16]byte{10, 200, 30, 41},
		Dst:   [16]byte{192, 168, 33, 44},
		SPort: 0xc1d2, DPort: 0xe3f4,
	}
	flow6 = api.Flow{
		V6:    true,
		Proto: 58,
		Src:   [16]byte{0x20, 1, 0xd, 0xb8, 5, 6, 7, 8, 9, 10, 11, 12, 14, 15, 16, 17},
		Dst:   [16]byte{0xfe, 0x80, 0xa1, 0xa2, 0xa3, 0xa4, 0xa5, 0xa6, 0xa7, 0xa8, 0xa9, 0xaa, 0xab, 0xac, 0xad, 0xae},
		SPort: 0xc1d2, DPort: 0xe3f4,
	}
	flows = []api.Flow{nought4, nought6, full4, full6, flow4, flow6}
)

// sixteen is sixteen times one byte.
func sixteen(b byte) [16]byte {
	return [16]byte(slices.Repeat([]byte{b}, 16))
}

// others are all flows that differ from this one in one bit alone, behind
// IPv4's addresses too.
func others(f api.Flow) []api.Flow {
	var all []api.Flow
	with := func(change func(g *api.Flow)) {
		g := f
		change(&g)
		all = append(all, g)
	}
	with(func(g *api.Flow) { g.V6 = !g.V6 })
	for bit := range 8 {
		with(func(g *api.Flow) { g.Proto ^= 1 << bit })
		for k := range 16 {
			with(func(g *api.Flow) { g.Src[k] ^= 1 << bit })
			with(func(g *api.Flow) { g.Dst[k] ^= 1 << bit })
		}
	}
	for bit := range 16 {
		with(func(g *api.Flow) { g.SPort ^= 1 << bit })
		with(func(g *api.Flow) { g.DPort ^= 1 << bit })
	}
	return all
}

// turned are flows made of the same parts as this one, in other places.
func turned(f api.Flow) []api.Flow {
	addresses, ports, both := f, f, f
	addresses.Src, addresses.Dst = f.Dst, f.Src
	ports.SPort, ports.DPort = f.DPort, f.SPort
	both.Src, both.Dst, both.SPort, both.DPort = f.Dst, f.Src, f.DPort, f.SPort
	return []api.Flow{addresses, ports, both}
}

// drawnFlow is a flow all of which is noise, behind IPv4 addresses too.
func drawnFlow(draw *rand.Rand) api.Flow {
	f := api.Flow{V6: draw.Intn(2) == 0, Proto: byte(draw.Intn(256)), SPort: uint16(draw.Intn(1 << 16)), DPort: uint16(draw.Intn(1 << 16))}
	draw.Read(f.Src[:])
	draw.Read(f.Dst[:])
	return f
}

// allBytes is all of a flow, one part behind the other.
func allBytes(f api.Flow) []byte {
	b := []byte{0, f.Proto, byte(f.SPort >> 8), byte(f.SPort), byte(f.DPort >> 8), byte(f.DPort)}
	if f.V6 {
		b[0] = 1
	}
	b = append(b, f.Src[:]...)
	return append(b, f.Dst[:]...)
}

// plainMatch is the chapter's words once more: two flows are one if all their
// bytes are.
func plainMatch(draw uint64, l []api.Flow, f api.Flow) (int, bool) {
	if len(l) == 0 {
		return 0, false
	}
	k := remainder(draw, len(l))
	if !slices.Equal(allBytes(l[k]), allBytes(f)) {
		return 0, false
	}
	return k, true
}

// checkMatch fails unless that is what is answered, each time it is asked, and
// the list reads afterwards as it did.
func checkMatch(t *testing.T, draw uint64, l []api.Flow, f api.Flow, want int, there bool) {
	t.Helper()
	before := slices.Clone(l)
	for range 2 {
		if got, ok := Match(draw, l, f); got != want || ok != there {
			t.Fatalf("Match(%d, %v, %v): %d, %t, not %d, %t", draw, l, f, got, ok, want, there)
		}
	}
	if !slices.Equal(l, before) {
		t.Fatalf("Match(%d, .., ..) left %v of %v", draw, l, before)
	}
}

// byPlain holds the answer against the plain one.
func byPlain(t *testing.T, draw uint64, l []api.Flow, f api.Flow) {
	t.Helper()
	want, there := plainMatch(draw, l, f)
	checkMatch(t, draw, l, f, want, there)
}

func TestMatchesByHand(t *testing.T) {
	a, b, c := api.Flow{SPort: 1}, api.Flow{SPort: 2}, api.Flow{SPort: 3}
	l := []api.Flow{b, a, c, a, b, b, a, c, c, a}
	for _, w := range []struct {
		draw  uint64
		f     api.Flow
		want  int
		there bool
	}{
		{0, b, 0, true}, {0, a, 0, false}, {0, c, 0, false},
		{1, a, 1, true}, {1, b, 0, false},
		{3, a, 3, true}, {3, c, 0, false},
		{9, a, 9, true}, {9, b, 0, false},
		{10, b, 0, true}, {10, a, 0, false},
		{11, a, 1, true}, {11, b, 0, false},
		{beforeHalf, c, 7, true}, {beforeHalf, a, 0, false},
		{half, c, 8, true}, {half, b, 0, false},
		{lastDraw, b, 5, true}, {lastDraw, a, 0, false}, {lastDraw, c, 0, false},
		{lastDraw, api.Flow{}, 0, false},
	} {
		checkMatch(t, w.draw, l, w.f, w.want, w.there)
	}
}

// draws are such as would pick something of many lists.
func draws() []uint64 {
	all := []uint64{beforeHalf - 1, beforeHalf, half, half + 1, 1 << 62, 1 << 32, lastDraw - 1, lastDraw}
	for draw := range uint64(20) {
		all = append(all, draw)
	}
	return all
}

func TestNoFlows(t *testing.T) {
	spare := slices.Clone(flows)[:0]
	for _, l := range [][]api.Flow{nil, {}, make([]api.Flow, 0, 9), spare} {
		for _, draw := range draws() {
			for _, f := range flows {
				checkMatch(t, draw, l, f, 0, false)
			}
		}
	}
	if !slices.Equal(spare[:len(flows)], flows) {
		t.Fatal(spare[:len(flows)])
	}
}

func TestOneFlow(t *testing.T) {
	for i, f := range flows {
		for j, g := range flows {
			for _, draw := range draws() {
				checkMatch(t, draw, []api.Flow{g}, f, 0, i == j)
			}
		}
	}
}

// The answer is who was picked, not who is the same ahead of it.
func TestAllOfOneFlow(t *testing.T) {
	for _, f := range flows {
		for n := 1; n <= 16; n++ {
			l := slices.Repeat([]api.Flow{f}, n)
			for _, draw := range append(draws(), edges(n)...) {
				checkMatch(t, draw, l, f, remainder(draw, n), true)
			}
		}
	}
}

func TestNoneOfThatFlow(t *testing.T) {
	for _, f := range flows {
		for n := 1; n <= 16; n++ {
			for _, g := range flows {
				if g == f {
					continue
				}
				l := slices.Repeat([]api.Flow{g}, n)
				for _, draw := range append(draws(), edges(n)...) {
					checkMatch(t, draw, l, f, 0, false)
				}
			}
		}
	}
}

// One place is the flow, or all but one are: at each place.
func TestTheOneThatIsPicked(t *testing.T) {
	for n := 1; n <= 12; n++ {
		for place := range n {
			alone, missing := slices.Repeat([]api.Flow{flow6}, n), slices.Repeat([]api.Flow{flow4}, n)
			alone[place], missing[place] = flow4, flow6
			for _, draw := range append(draws(), edges(n)...) {
				k := remainder(draw, n)
				if k == place {
					checkMatch(t, draw, alone, flow4, k, true)
					checkMatch(t, draw, missing, flow4, 0, false)
				} else {
					checkMatch(t, draw, alone, flow4, 0, false)
					checkMatch(t, draw, missing, flow4, k, true)
				}
			}
		}
	}
}

// One bit makes another flow, wherever it stands, even where IPv4 doesn't use
// it.
func TestFlowsThatDifferInOnePart(t *testing.T) {
	for _, f := range flows {
		differ := others(f)
		if len(differ) != 1+8+2*128+2*16 {
			t.Fatal(len(differ))
		}
		for _, g := range differ {
			checkMatch(t, 0, []api.Flow{g}, f, 0, false)
			checkMatch(t, 0, []api.Flow{f}, g, 0, false)
			checkMatch(t, 0, []api.Flow{g}, g, 0, true)
			l := []api.Flow{f, g, f}
			checkMatch(t, 4, l, f, 0, false)
			checkMatch(t, 4, l, g, 1, true)
			checkMatch(t, 5, l, f, 2, true)
			checkMatch(t, 5, l, g, 0, false)
		}
	}
}

func TestFlowsWhosePartsAreTurned(t *testing.T) {
	for _, f := range []api.Flow{flow4, flow6} {
		for _, g := range turned(f) {
			checkMatch(t, 3, []api.Flow{f, g}, f, 0, false)
			checkMatch(t, 3, []api.Flow{f, g}, g, 1, true)
		}
	}
}

// Where two parts differ by as much, they don't make up for each other.
func TestFlowsThatDifferInTwoParts(t *testing.T) {
	for _, f := range flows {
		differ := others(f)
		for i, g := range differ {
			h := differ[(i+1)%len(differ)]
			checkMatch(t, 1, []api.Flow{f, g}, h, 0, false)
			checkMatch(t, 1, []api.Flow{f, h}, g, 0, false)
		}
		g := f
		g.Src[3], g.Dst[3] = g.Src[3]^9, g.Dst[3]^9
		checkMatch(t, 0, []api.Flow{g}, f, 0, false)
		g = f
		g.SPort, g.DPort = g.SPort^1, g.DPort^1
		checkMatch(t, 0, []api.Flow{g}, f, 0, false)
	}
}

// What stands behind the list's end is neither picked nor changed.
func TestSpareRoom(t *testing.T) {
	whole := []api.Flow{flow4, flow6, full4, full6, nought4, flow4, flow4}
	l := slices.Clone(whole)
	for n := range len(l) {
		for _, draw := range append(draws(), edges(n+1)...) {
			for _, f := range flows {
				byPlain(t, draw, l[:n], f)
			}
		}
	}
	byPlain(t, 5, l[:5], flow6)
	checkMatch(t, 5, l[:5], flow4, 0, true)
	if !slices.Equal(l, whole) {
		t.Fatal(l)
	}
}

// What is asked later knows nothing of lists that were asked before.
func TestListsAreNotKept(t *testing.T) {
	l := []api.Flow{flow4, flow6}
	checkMatch(t, 1, l, flow6, 1, true)
	l[1] = full6
	checkMatch(t, 1, l, flow6, 0, false)
	checkMatch(t, 1, l, full6, 1, true)
	checkMatch(t, 1, l[:1], flow4, 0, true)
	checkMatch(t, 1, nil, flow4, 0, false)
	checkMatch(t, 0, l, flow4, 0, true)
}

// Places that a shorter number doesn't hold.
func TestLongLists(t *testing.T) {
	for _, n := range []int{127, 128, 255, 256, 257, 4096, 65535, 65536, 65537, 100003} {
		l := make([]api.Flow, n)
		for k := range l {
			l[k] = api.Flow{SPort: uint16(k), DPort: uint16(k >> 16)}
		}
		for _, draw := range edges(n) {
			k := remainder(draw, n)
			if got, ok := Match(draw, l, l[k]); got != k || !ok {
				t.Fatalf("draw %d of %d: %d, %t, not %d", draw, n, got, ok, k)
			}
			if got, ok := Match(draw, l, l[(k+1)%n]); got != 0 || ok {
				t.Fatalf("draw %d of %d: %d, %t", draw, n, got, ok)
			}
		}
	}
}

// Every list of up to five of three flows, with every one of them.
func TestEveryShortList(t *testing.T) {
	three := []api.Flow{flow4, flow6, {}}
	var longer func(l []api.Flow)
	longer = func(l []api.Flow) {
		for _, draw := range draws() {
			for _, f := range three {
				byPlain(t, draw, l, f)
			}
		}
		for _, f := range three {
			if len(l) < 5 {
				longer(append(slices.Clone(l), f))
			}
		}
	}
	longer(nil)
}

// Flows of which many are the same, or nearly so, and draws of any length.
func TestDrawnLists(t *testing.T) {
	draw := rand.New(rand.NewSource(5))
	met := 0
	for range 20000 {
		f := drawnFlow(draw)
		differ := others(f)
		l := make([]api.Flow, draw.Intn(40))
		for k := range l {
			switch draw.Intn(3) {
			case 0:
				l[k] = f
			case 1:
				l[k] = differ[draw.Intn(len(differ))]
			case 2:
				l[k] = drawnFlow(draw)
			}
		}
		d := draw.Uint64() >> draw.Intn(64)
		byPlain(t, d, l, f)
		if _, ok := Match(d, l, f); ok {
			met++
		}
		if k, ok := Pick(d, len(l)); ok {
			checkMatch(t, d, l, l[k], k, true)
		}
	}
	if met < 5000 || met > 8000 {
		t.Fatalf("%d of 20000 met", met)
	}
}

// Several may ask one list at once, as nobody changes it.
func TestMatchesInSeveralPlacesAtOnce(t *testing.T) {
	l := slices.Repeat(flows, 50)
	var all sync.WaitGroup
	for k := range 8 {
		all.Go(func() {
			draw := rand.New(rand.NewSource(int64(k)))
			for range 3000 {
				d, n, f := draw.Uint64(), draw.Intn(len(l)), flows[draw.Intn(len(flows))]
				want, there := plainMatch(d, l[:n], f)
				if got, ok := Match(d, l[:n], f); got != want || ok != there {
					t.Errorf("Match(%d, .. %d flows, %v): %d, %t, not %d, %t", d, n, f, got, ok, want, there)
					return
				}
			}
		})
	}
	all.Wait()
}
