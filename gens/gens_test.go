package gens

import (
	"math"
	"math/rand"
	"slices"
	"sync"
	"testing"

	"bailiff/api"
	"bailiff/keyed"
)

func TestTheChaptersExample(t *testing.T) {
	for _, key := range keys {
		for _, next := range keys {
			p := newPair(t, 1, key, flows...)
			p.says(false, 0, 0)
			p.rekey(next, api.OK)
			p.says(true, 0, 0)
			p.step(0, true)
			p.says(false, 1, 1)
			p.step(0, false)
			p.says(false, 1, 1)
		}
	}
}

func TestNewAtItsEdges(t *testing.T) {
	for _, buckets := range []int{1, 2, 3, 4, 31, 32, 33, 62, 63, 64} {
		for _, key := range keys {
			p := newPair(t, buckets, key, flows...)
			p.says(false, 0, 0)
			p.step(0, false)
			p.says(false, 0, 0)
		}
	}
}

func TestBucketsThatMayNotBe(t *testing.T) {
	for _, buckets := range []int{
		math.MinInt, math.MinInt + 1, -1 << 62, -1<<32 + 1, -1 << 32, -1 << 31, -65536, -256, -255, -65, -64, -63, -2, -1, 0,
		65, 66, 127, 128, 129, 256, 257, 320, 4096, 65536, 65537, 1<<31 + 1, 1 << 32, 1<<32 + 1, 1<<32 + 64, 1 << 62, math.MaxInt - 1, math.MaxInt,
	} {
		for _, key := range keys {
			if g, e := New(buckets, key); g != nil || e != api.ErrArg {
				t.Fatalf("New(%d, %x): %v, %v", buckets, key, g, e)
			}
		}
	}
	if api.MaxBuckets != topBuckets || api.MaxLevels != topLevels {
		t.Fatal(api.MaxBuckets, api.MaxLevels)
	}
}

// Two moves of 4 buckets, by keys of noughts, otherKey and upKey: where each
// of flows is behind so many steps. What it falls into was worked out from
// layer 13's sums, which are of another make.
func TestWhereByHand(t *testing.T) {
	g, _ := New(4, nought)
	check := func(want ...place) {
		t.Helper()
		for k, f := range flows {
			if got := where(g, f); got != want[k] {
				t.Fatalf("%v: %v, not %v", f, got, want[k])
			}
		}
	}
	step := func(want int) {
		t.Helper()
		if class, ok := g.Step(); class != want || !ok {
			t.Fatalf("%d, %v, not %d", class, ok, want)
		}
	}
	rekey := func(key [16]byte) {
		t.Helper()
		if e := g.Rekey(key); e != api.OK {
			t.Fatal(e)
		}
	}
	check(place{0, 2}, place{0, 2}, place{0, 0}, place{0, 1}, place{0, 3}, place{0, 0})
	rekey(otherKey)
	check(place{0, 2}, place{0, 2}, place{0, 0}, place{0, 1}, place{0, 3}, place{0, 0})
	step(0)
	check(place{0, 2}, place{0, 2}, place{1, 6}, place{0, 1}, place{0, 3}, place{1, 4})
	step(1)
	check(place{0, 2}, place{0, 2}, place{1, 6}, place{1, 4}, place{0, 3}, place{1, 4})
	step(2)
	check(place{1, 4}, place{1, 7}, place{1, 6}, place{1, 4}, place{0, 3}, place{1, 4})
	step(3)
	check(place{1, 4}, place{1, 7}, place{1, 6}, place{1, 4}, place{1, 7}, place{1, 4})
	rekey(upKey)
	check(place{1, 4}, place{1, 7}, place{1, 6}, place{1, 4}, place{1, 7}, place{1, 4})
	step(4)
	check(place{0, 2}, place{1, 7}, place{1, 6}, place{0, 1}, place{1, 7}, place{0, 1})
	step(5)
	check(place{0, 2}, place{1, 7}, place{1, 6}, place{0, 1}, place{1, 7}, place{0, 1})
	step(6)
	check(place{0, 2}, place{1, 7}, place{0, 1}, place{0, 1}, place{1, 7}, place{0, 1})
	step(7)
	check(place{0, 2}, place{0, 1}, place{0, 1}, place{0, 1}, place{0, 1}, place{0, 1})
}

// The bins of flow4 by keys of ones, and of the other ones, worked out by hand
// likewise.
func TestBinsByHand(t *testing.T) {
	g, _ := New(2, otherKey)
	check := func(gen, levels, n int, want ...int) {
		t.Helper()
		if got := g.Bins(gen, flow4, levels, n); !slices.Equal(got, want) {
			t.Fatalf("Bins(%d, .., %d, %d): %d, not %d", gen, levels, n, got, want)
		}
	}
	check(0, 4, 64, 40, 45, 0, 3)
	check(0, 3, 10, 8, 9, 4)
	check(1, 4, 64)
	g.Rekey(upKey)
	check(0, 4, 64, 40, 45, 0, 3)
	check(1, 4, 64, 41, 27, 38, 26)
	check(1, 2, 10, 7, 5)
	g.Step()
	check(0, 1, 64, 40)
	check(1, 1, 64, 41)
	g.Step()
	check(0, 4, 64)
	check(1, 9, 64, 41, 27, 38, 26)
	g.Rekey(full)
	check(0, 4, 10, 9, 7, 1, 6)
	check(1, 4, 10, 7, 5, 0, 0)
	g.Step()
	g.Step()
	check(0, 4, 64, 27, 27, 27, 30)
	check(1, 4, 64)
}

func TestRekeyWhileTheyMove(t *testing.T) {
	for _, buckets := range []int{1, 2, 3, 64} {
		p := newPair(t, buckets, upKey, append(ofEach(t, upKey, buckets), flows...)...)
		for epoch := range 4 {
			old := epoch % 2
			p.rekey(keys[epoch], api.OK)
			for bucket := range buckets {
				p.says(true, old, int64(epoch))
				for _, key := range keys {
					p.rekey(key, api.ErrBusy)
				}
				p.step(old*buckets+bucket, true)
			}
			p.says(false, 1-old, int64(epoch)+1)
			p.step(0, false)
		}
	}
}

// What is refused isn't to be seen later either: those that it was told and
// those that it wasn't go the same way.
func TestWhatIsBusyChangesNothing(t *testing.T) {
	draw := rand.New(rand.NewSource(1))
	for range 300 {
		buckets, key := 1+draw.Intn(topBuckets), drawnKey(draw)
		g, _ := New(buckets, key)
		h, _ := New(buckets, key)
		for range 200 {
			if draw.Intn(3) == 0 {
				key := drawnKey(draw)
				if g.Rekey(key) == api.OK && h.Rekey(key) != api.OK {
					t.Fatal("busy")
				}
			}
			got, ok := g.Step()
			want, there := h.Step()
			if *g != *h || got != want || ok != there {
				t.Fatalf("%v, %v; %d, %v; %d, %v", *g, *h, got, ok, want, there)
			}
		}
	}
}

// By the same key a flow falls into the same bucket, but of the other
// generation.
func TestTheSameKeyAgain(t *testing.T) {
	for _, buckets := range []int{1, 2, 7, 64} {
		for _, key := range keys {
			each := append(ofEach(t, key, buckets), flows...)
			p := newPair(t, buckets, key, each...)
			for epoch := range 3 {
				p.rekey(key, api.OK)
				p.rekey(key, api.ErrBusy)
				for moved := range buckets {
					for _, f := range each {
						bucket, gen := falls(key, f, 0, buckets), epoch%2
						if bucket < moved {
							gen = 1 - gen
						}
						if got := where(p.gens, f); got != (place{gen, gen*buckets + bucket}) {
							t.Fatalf("%d of %d: %v", moved, buckets, got)
						}
					}
					p.step(epoch%2*buckets+moved, true)
				}
			}
		}
	}
}

// With each number of buckets, over several moves: the classes from the old
// one's first to its last, and what is said at the last one and behind it.
func TestStepThroughAllBuckets(t *testing.T) {
	draw := rand.New(rand.NewSource(2))
	for buckets := 1; buckets <= topBuckets; buckets++ {
		p := newPair(t, buckets, drawnKey(draw), flows...)
		first := 0
		for epoch := range int64(5) {
			old := int(epoch % 2)
			p.step(0, false)
			p.says(false, old, epoch)
			p.rekey(drawnKey(draw), api.OK)
			for class := first; class < first+buckets; class++ {
				p.says(true, old, epoch)
				p.step(class, true)
			}
			p.says(false, 1-old, epoch+1)
			p.step(0, false)
			p.step(0, false)
			p.says(false, 1-old, epoch+1)
			first = buckets - first
		}
	}
}

// Many moves: a count that a byte, or two, doesn't hold.
func TestManyEpochs(t *testing.T) {
	g, _ := New(1, nought)
	for epoch := range int64(70000) {
		if g.Epoch() != epoch || g.Old() != int(epoch%2) || g.Rekey(upKey) != api.OK {
			t.Fatal(epoch, g.Epoch(), g.Old())
		}
		if class, ok := g.Step(); class != int(epoch%2) || !ok {
			t.Fatal(epoch, class, ok)
		}
	}
}

// A flow of each bucket, ahead of each step, at it and behind it.
func TestWhereAheadOfEachStepAtItAndBehindIt(t *testing.T) {
	for _, buckets := range []int{1, 2, 3, 5, 8, 63, 64} {
		g, _ := New(buckets, upKey)
		g.Rekey(otherKey)
		each := ofEach(t, upKey, buckets)
		for moved := range buckets + 1 {
			for bucket, f := range each {
				want := place{0, bucket}
				if bucket < moved {
					want = place{1, buckets + keyed.Bucket(otherKey, f, buckets)}
				}
				if got := where(g, f); got != want {
					t.Fatalf("bucket %d, %d of %d moved: %v, not %v", bucket, moved, buckets, got, want)
				}
			}
			g.Step()
		}
	}
}

// A move changes the generation of each flow with the one step that moves its
// class, and its class with that alone; to begin to move changes nothing.
func TestEachFlowChangesItsGenerationOnce(t *testing.T) {
	draw := rand.New(rand.NewSource(3))
	for buckets := 1; buckets <= topBuckets; buckets++ {
		var fs []api.Flow
		for range 150 {
			fs = append(fs, drawnFlow(draw))
		}
		g, _ := New(buckets, drawnKey(draw))
		for epoch := range 3 {
			if g.Rekey(drawnKey(draw)); !g.Moving() {
				t.Fatal(buckets)
			}
			changes := make([]int, len(fs))
			for range buckets {
				before := make([]place, len(fs))
				for k, f := range fs {
					before[k] = where(g, f)
				}
				class, _ := g.Step()
				for k, f := range fs {
					now, changed := where(g, f), before[k] == place{epoch % 2, class}
					if changed {
						changes[k]++
					}
					if changed != (now.gen != before[k].gen) || changed != (now != before[k]) {
						t.Fatalf("step %d of %d: %v, then %v", class, buckets, before[k], now)
					}
				}
			}
			if !slices.Equal(changes, slices.Repeat([]int{1}, len(fs))) {
				t.Fatalf("%d buckets: %d", buckets, changes)
			}
		}
	}
}

// Every class is that of a bucket, and no two generations have one in common.
func TestClassesOfEachGeneration(t *testing.T) {
	for buckets := 1; buckets <= topBuckets; buckets++ {
		g, _ := New(buckets, nought)
		for gen := range 2 {
			if gen == 1 {
				g.Rekey(full)
				for range buckets {
					g.Step()
				}
			}
			seen := map[int]int{}
			f := flow6
			for port := range 30 * buckets {
				f.DPort = uint16(port)
				at := where(g, f)
				if at.gen != gen || at.class < gen*buckets || at.class >= (gen+1)*buckets {
					t.Fatalf("%d buckets: %v", buckets, at)
				}
				seen[at.class]++
			}
			if len(seen) != buckets {
				t.Fatalf("%d of %d", len(seen), buckets)
			}
		}
	}
}

// Of all generations, at all edges: while nothing moves, at each step of a
// move, and behind it.
func TestBinsOfEachGeneration(t *testing.T) {
	p := newPair(t, 2, otherKey, flows...)
	for epoch := range 3 {
		p.allBins()
		p.rekey(keys[epoch], api.OK)
		p.allBins()
		p.rekey(full, api.ErrBusy)
		p.step(epoch%2*2, true)
		p.allBins()
		p.step(epoch%2*2+1, true)
	}
	p.allBins()
}

func TestBinsAreThoseOfLayer13(t *testing.T) {
	draw := rand.New(rand.NewSource(4))
	for range 1000 {
		first, second, f := drawnKey(draw), drawnKey(draw), drawnFlow(draw)
		levels, n := draw.Intn(8)-1, draw.Intn(70)-2
		g, _ := New(1+draw.Intn(topBuckets), first)
		g.Rekey(second)
		for gen, key := range [][16]byte{first, second} {
			if got, want := g.Bins(gen, f, levels, n), keyed.Bins(key, f, levels, n); !slices.Equal(got, want) {
				t.Fatalf("Bins(%d, %v, %d, %d): %d, not %d", gen, f, levels, n, got, want)
			}
		}
	}
}

// What is done to one answer, its spare room too, is in no other one.
func TestBinsAreNewMemory(t *testing.T) {
	p := newPair(t, 2, upKey, flows...)
	spoil := func() {
		t.Helper()
		for _, gen := range []int{-1, 0, 1, 2} {
			for _, levels := range []int{-1, 0, 1, 2, 3, 4, 5} {
				first, second := p.gens.Bins(gen, flow6, levels, 64), p.gens.Bins(gen, flow6, levels, 64)
				want := slices.Clone(second)
				room := first[:cap(first)]
				for k := range room {
					room[k] = -7
				}
				_ = append(first, -7, -7, -7, -7, -7)
				if !slices.Equal(second, want) {
					t.Fatalf("%d levels of %d: %d, not %d", levels, gen, second, want)
				}
				p.bins(gen, flow6, levels, 64)
			}
		}
	}
	spoil()
	p.rekey(otherKey, api.OK)
	spoil()
	p.step(0, true)
	spoil()
	p.step(1, true)
	spoil()
}

// Nobody may ask for what fell by a key that is used up, so it isn't kept.
func TestAKeyThatIsUsedUpIsForgotten(t *testing.T) {
	p := newPair(t, 2, upKey, flows...)
	if p.gens.keys != [2][16]byte{upKey, nought} {
		t.Fatal(p.gens.keys)
	}
	p.rekey(otherKey, api.OK)
	p.step(0, true)
	if p.gens.keys != [2][16]byte{upKey, otherKey} {
		t.Fatal(p.gens.keys)
	}
	p.step(1, true)
	if p.gens.keys != [2][16]byte{nought, otherKey} {
		t.Fatal(p.gens.keys)
	}
	p.rekey(full, api.OK)
	p.step(2, true)
	p.step(3, true)
	if p.gens.keys != [2][16]byte{full, nought} {
		t.Fatal(p.gens.keys)
	}
}

// asksAll asks for all that can be asked, and whether it is all zero.
func asksAll(g *Gens) bool {
	zero := !g.Moving() && g.Old() == 0 && g.Epoch() == 0
	for _, f := range flows {
		zero = zero && where(g, f) == place{}
		for _, gen := range append([]int{0, 1}, noGeneration...) {
			zero = zero && len(g.Bins(gen, f, 2, 10)) == 0 && len(g.Bins(gen, f, math.MaxInt, math.MinInt)) == 0
		}
	}
	return zero
}

func TestNilGens(t *testing.T) {
	var g *Gens
	for range 3 {
		for _, key := range keys {
			if e := g.Rekey(key); e != api.ErrArg {
				t.Fatal(e)
			}
			if class, ok := g.Step(); class != 0 || ok {
				t.Fatal(class, ok)
			}
			if !asksAll(g) {
				t.Fatal("not zero")
			}
		}
	}
}

// Of those made by hand nothing is promised but that each call ends.
func TestGensMadeByHand(t *testing.T) {
	for _, g := range []*Gens{{}, new(Gens)} {
		for _, key := range keys {
			asksAll(g)
			g.Rekey(key)
			asksAll(g)
			for steps := 0; g.Moving(); steps++ {
				g.Step()
				asksAll(g)
				if steps > 2*topBuckets {
					t.Fatal("it doesn't end")
				}
			}
			g.Step()
			asksAll(g)
		}
	}
}

// Whatever is done in up to eight calls, with few buckets and two keys.
func TestEveryShortHistory(t *testing.T) {
	for buckets := 1; buckets <= 4; buckets++ {
		each := append(ofEach(t, upKey, buckets), flow6)
		var longer func(p *pair, calls int)
		longer = func(p *pair, calls int) {
			if calls == 0 {
				return
			}
			for _, key := range [][16]byte{upKey, otherKey} {
				q := p.twin()
				q.tryRekey(key)
				longer(q, calls-1)
			}
			q := p.twin()
			q.tryStep()
			longer(q, calls-1)
		}
		longer(newPair(t, buckets, upKey, each...), 8)
	}
}

func TestDrawnHistories(t *testing.T) {
	draw := rand.New(rand.NewSource(5))
	epochs, busy := 0, 0
	for range 400 {
		var fs []api.Flow
		for range 12 {
			fs = append(fs, drawnFlow(draw))
		}
		p := newPair(t, 1+draw.Intn(1+draw.Intn(topBuckets)), drawnKey(draw), append(fs, flows...)...)
		for range 100 {
			switch draw.Intn(8) {
			case 0:
				if p.tryRekey(drawnKey(draw)) == api.ErrBusy {
					busy++
				}
			case 1:
				p.bins(draw.Intn(4)-1, fs[draw.Intn(len(fs))], draw.Intn(7)-1, draw.Intn(70)-2)
			default:
				p.tryStep()
			}
		}
		epochs += p.plain.epoch()
	}
	if epochs < 1000 || busy < 1000 {
		t.Fatalf("%d moves, %d times busy", epochs, busy)
	}
}

// Gens have nothing in common: several go on at once, each by itself.
func TestGensAreApart(t *testing.T) {
	var all sync.WaitGroup
	for k := range 8 {
		all.Go(func() {
			draw := rand.New(rand.NewSource(int64(k)))
			buckets, key, next := 1+draw.Intn(topBuckets), drawnKey(draw), drawnKey(draw)
			g, _ := New(buckets, key)
			g.Rekey(next)
			for moved := range buckets + 1 {
				f := drawnFlow(draw)
				p := plain{buckets, [][16]byte{key, next}, moved}
				if got, want := where(g, f), p.where(f); got != want {
					t.Errorf("%v: %v, not %v", f, got, want)
				}
				if got, want := g.Bins(1, f, 4, 64), plainBins(next, f, 4, 64); !slices.Equal(got, want) {
					t.Errorf("%v: %d, not %d", f, got, want)
				}
				g.Step()
			}
		})
	}
	all.Wait()
}
