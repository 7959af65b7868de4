package gens

import (
	"math"
	"math/rand"
	"slices"
	"testing"

	"bailiff/api"
	"bailiff/frame"
	"bailiff/sip"
)

// The limits as the document writes them, so that a test doesn't take them
// from where the program does.
const (
	topBuckets = 64
	topLevels  = 4
)

// Keys of noughts and of ones, 0, 1, .., 15, and one whose bytes are all
// different, and in no order.
var (
	nought   = [16]byte{}
	full     = sixteen(0xff)
	upKey    = [16]byte{0, 1, 2, 3, 4, 5, 6, 7, 8, 9, 10, 11, 12, 13, 14, 15}
	otherKey = [16]byte{0x5b, 2, 0xa9, 0x50, 0xf7, 0x9e, 0x45, 0xec, 0x93, 0x3a, 0xe1, 0x88, 0x2f, 0xd6, 0x7d, 0x24}
	keys     = [][16]byte{nought, full, upKey, otherKey}
)

// Flows of noughts, of ones, and flows no two bytes of which are the same.
var (
	nought4 = api.Flow{}
	nought6 = api.Flow{V6: true}
	full4   = api.Flow{Proto: 255, Src: sixteen(0xff), Dst: sixteen(0xff), SPort: 0xffff, DPort: 0xffff}
	full6   = api.Flow{V6: true, Proto: 255, Src: sixteen(0xff), Dst: sixteen(0xff), SPort: 0xffff, DPort: 0xffff}
	flow4   = api.Flow{
		Proto: 6,
		Src:   [16]byte{10, 200, 30, 41},
		Dst:   [16]byte{192, 168, 33, 44},
		SPort: 0xc1d2, DPort: 0xe3f4,
	}
	flow6 = api.Flow{
		V6:    true,
		Proto: 58,
		Src:   [16]byte{0x20, 1, 0xd, 0xb8, 5, 6, 7, 8, 9, 10, 11, 12, 14, 15, 16, 17},
		Dst:   [16]byte{0xfe, 0x80, 0xa1, 0xa2, 0xa3, 0xa4, 0xa5, 0xa6, 0xa7, 0xa8, 0xa9, 0xaa, 0xab, 0xac, 0xad, 0xae},
		SPort: 0xc1d2, DPort: 0xe3f4,
	}
	flows = []api.Flow{nought4, nought6, full4, full6, flow4, flow6}
)

// Numbers that are no generation, among them such as a shorter number takes
// for one.
var noGeneration = []int{
	math.MinInt, math.MinInt + 1, -1 << 62, -1 << 32, -65536, -256, -255, -64, -3, -2, -1,
	2, 3, 4, 5, 63, 64, 65, 127, 128, 255, 256, 257, 65536, 65537, 1 << 31, 1 << 32, 1<<32 + 1, 1 << 62, math.MaxInt - 1, math.MaxInt,
}

// Levels and numbers of bins, with their edges.
var (
	levelsOfBins = []int{math.MinInt, math.MinInt + 1, -1 << 32, -256, -4, -1, 0, 1, 2, 3, 4, 5, 6, 64, 256, 257, 1 << 32, math.MaxInt - 1, math.MaxInt}
	countsOfBins = []int{math.MinInt, math.MinInt + 1, -1 << 32, -64, -1, 0, 1, 2, 3, 7, 10, 63, 64, 65, 256, 1 << 32, 1 << 62, math.MaxInt - 1, math.MaxInt}
)

// sixteen is sixteen times one byte.
func sixteen(b byte) [16]byte {
	return [16]byte(slices.Repeat([]byte{b}, 16))
}

// drawnFlow is a flow all of which is noise, behind IPv4 addresses too.
func drawnFlow(draw *rand.Rand) api.Flow {
	f := api.Flow{V6: draw.Intn(2) == 0, Proto: byte(draw.Intn(256)), SPort: uint16(draw.Intn(1 << 16)), DPort: uint16(draw.Intn(1 << 16))}
	draw.Read(f.Src[:])
	draw.Read(f.Dst[:])
	return f
}

// drawnKey is a key of noise.
func drawnKey(draw *rand.Rand) [16]byte {
	var key [16]byte
	draw.Read(key[:])
	return key
}

// falls is the one of n into which the flow falls by the key, of buckets with
// the byte 0, of the bins of level l with l + 1.
func falls(key [16]byte, f api.Flow, what byte, n int) int {
	if n < 1 {
		return 0
	}
	return int(sip.Sum(key, append(frame.Key(f), what)) % uint64(n))
}

// plainBins is the bins of all levels there are.
func plainBins(key [16]byte, f api.Flow, levels, n int) []int {
	var bins []int
	for level := 0; level < levels && level < topLevels; level++ {
		bins = append(bins, falls(key, f, byte(level)+1, n))
	}
	return bins
}

// into is a flow that falls into that bucket by the key.
func into(t *testing.T, key [16]byte, buckets, bucket int) api.Flow {
	t.Helper()
	f := flow4
	for port := range 1 << 16 {
		f.SPort = uint16(port)
		if falls(key, f, 0, buckets) == bucket {
			return f
		}
	}
	t.Fatalf("nothing falls into %d of %d", bucket, buckets)
	return f
}

// place is all that Where answers.
type place struct{ gen, class int }

func where(g *Gens, f api.Flow) place {
	gen, class := g.Where(f)
	return place{gen, class}
}

// plain is a plain second way: all keys that were ever taken, the first one
// first, and how many buckets were moved since the beginning. The first key is
// generation 0's, the next one generation 1's, and so on by turns.
type plain struct {
	buckets int
	keys    [][16]byte
	steps   int
}

// epoch is how often all buckets were moved; that is which key is the old one.
func (p *plain) epoch() int { return p.steps / p.buckets }

func (p *plain) old() int { return p.epoch() % 2 }

func (p *plain) moving() bool { return len(p.keys) > p.epoch()+1 }

// moved is how many buckets of the old one are moved.
func (p *plain) moved() int { return p.steps % p.buckets }

// where asks the old key, and the new one, if the bucket is moved.
func (p *plain) where(f api.Flow) place {
	which := p.epoch()
	if falls(p.keys[which], f, 0, p.buckets) < p.moved() {
		which++
	}
	return place{which % 2, which%2*p.buckets + falls(p.keys[which], f, 0, p.buckets)}
}

func (p *plain) rekey(key [16]byte) api.Errno {
	if p.moving() {
		return api.ErrBusy
	}
	p.keys = append(slices.Clone(p.keys), key)
	return api.OK
}

func (p *plain) step() (int, bool) {
	if !p.moving() {
		return 0, false
	}
	class := p.old()*p.buckets + p.moved()
	p.steps++
	return class, true
}

// bins looks for the key among those that aren't used up yet.
func (p *plain) bins(gen int, f api.Flow, levels, n int) []int {
	for which := p.epoch(); which < len(p.keys); which++ {
		if which%2 == gen {
			return plainBins(p.keys[which], f, levels, n)
		}
	}
	return nil
}

// pair is gens, and a plain second one. Each step is done to both, and all
// that the gens say of themselves is held against the other behind it.
type pair struct {
	t     *testing.T
	gens  *Gens
	plain plain
	flows []api.Flow
}

func newPair(t *testing.T, buckets int, key [16]byte, fs ...api.Flow) *pair {
	t.Helper()
	g, e := New(buckets, key)
	if g == nil || e != api.OK {
		t.Fatalf("New(%d, %x): %v, %v", buckets, key, g, e)
	}
	p := &pair{t: t, gens: g, flows: fs, plain: plain{buckets: buckets, keys: [][16]byte{key}}}
	p.check()
	return p
}

// ofEach is a flow for each bucket of the key.
func ofEach(t *testing.T, key [16]byte, buckets int) []api.Flow {
	t.Helper()
	var fs []api.Flow
	for bucket := range buckets {
		fs = append(fs, into(t, key, buckets, bucket))
	}
	return fs
}

func (p *pair) rekey(key [16]byte, want api.Errno) {
	p.t.Helper()
	if got := p.tryRekey(key); got != want {
		p.t.Fatalf("Rekey(%x): %v, not %v", key, got, want)
	}
}

func (p *pair) tryRekey(key [16]byte) api.Errno {
	p.t.Helper()
	want := p.plain.rekey(key)
	if got := p.gens.Rekey(key); got != want {
		p.t.Fatalf("Rekey(%x) behind %d keys, %d steps of %d: %v, not %v", key, len(p.plain.keys), p.plain.steps, p.plain.buckets, got, want)
	}
	p.check()
	return want
}

func (p *pair) step(want int, there bool) {
	p.t.Helper()
	if got, ok := p.tryStep(); got != want || ok != there {
		p.t.Fatalf("Step: %d, %v, not %d, %v", got, ok, want, there)
	}
}

func (p *pair) tryStep() (int, bool) {
	p.t.Helper()
	want, there := p.plain.step()
	if got, ok := p.gens.Step(); got != want || ok != there {
		p.t.Fatalf("Step behind %d keys, %d of %d: %d, %v, not %d, %v", len(p.plain.keys), p.plain.steps, p.plain.buckets, got, ok, want, there)
	}
	p.check()
	return want, there
}

// says fails unless that is what they say of themselves.
func (p *pair) says(moving bool, old int, epoch int64) {
	p.t.Helper()
	g := p.gens
	if g.Moving() != moving || g.Old() != old || g.Epoch() != epoch {
		p.t.Fatalf("%v, %d, %d, not %v, %d, %d", g.Moving(), g.Old(), g.Epoch(), moving, old, epoch)
	}
}

// check asks for everything twice, as to be asked must change nothing.
func (p *pair) check() {
	p.t.Helper()
	for range 2 {
		p.says(p.plain.moving(), p.plain.old(), int64(p.plain.epoch()))
		for _, f := range p.flows {
			if got, want := where(p.gens, f), p.plain.where(f); got != want {
				p.t.Fatalf("%v behind %d keys, %d steps of %d: %v, not %v", f, len(p.plain.keys), p.plain.steps, p.plain.buckets, got, want)
			}
		}
		for _, gen := range []int{math.MinInt, -1, 0, 1, 2, math.MaxInt} {
			p.bins(gen, p.flows[0], 2, 10)
		}
	}
}

// bins holds one answer against the plain one.
func (p *pair) bins(gen int, f api.Flow, levels, n int) {
	p.t.Helper()
	if got, want := p.gens.Bins(gen, f, levels, n), p.plain.bins(gen, f, levels, n); !slices.Equal(got, want) {
		p.t.Fatalf("behind %d keys, %d steps of %d: Bins(%d, %v, %d, %d): %d, not %d", len(p.plain.keys), p.plain.steps, p.plain.buckets, gen, f, levels, n, got, want)
	}
}

// allBins holds the answers of all generations, at all edges, against the
// plain ones.
func (p *pair) allBins() {
	p.t.Helper()
	for _, gen := range append([]int{0, 1}, noGeneration...) {
		for _, levels := range levelsOfBins {
			for _, n := range countsOfBins {
				p.bins(gen, flow6, levels, n)
			}
		}
	}
}

// twin is the pair once more, to go another way.
func (p *pair) twin() *pair {
	g, q := *p.gens, *p
	q.gens = &g
	return &q
}
