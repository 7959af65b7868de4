package sip

import (
	"bytes"
	"slices"
	"testing"
)

// singles is each of l's bytes as a part.
func singles(l []byte) [][]byte {
	var parts [][]byte
	for k := range l {
		parts = append(parts, l[k:k+1])
	}
	return parts
}

// between is the parts with some others ahead of each of them and behind the
// last one.
func between(parts [][]byte, others ...[]byte) [][]byte {
	all := slices.Clone(others)
	for _, p := range parts {
		all = append(all, p)
		all = append(all, others...)
	}
	return all
}

func TestNoParts(t *testing.T) {
	for _, of := range byKeys {
		none := of.sums[0] // the first of lengths is 0
		check(t, none, of.key)
		check(t, none, of.key, [][]byte(nil)...)
		check(t, none, of.key, [][]byte{}...)
		check(t, none, of.key, make([][]byte, 0, 5)...)
		check(t, none, of.key, nil)
		check(t, none, of.key, []byte{})
		check(t, none, of.key, mixed(9)[:0])
		check(t, none, of.key, mixed(9)[9:])
		check(t, none, of.key, nil, []byte{}, nil, nil, mixed(3)[:0])
		check(t, none, of.key, make([][]byte, 1000)...)
	}
}

func TestInTwoPartsPartedAtEachPlace(t *testing.T) {
	for _, of := range byKeys {
		for k, n := range lengths {
			l := mixed(n)
			for place := range n + 1 {
				check(t, of.sums[k], of.key, l[:place], l[place:])
			}
		}
	}
}

func TestInThreePartsPartedAtEachTwoPlaces(t *testing.T) {
	for n, want := range ofUp {
		l := up(n)
		for b := range n + 1 {
			for a := range b + 1 {
				check(t, want, upKey(), l[:a], l[a:b], l[b:])
			}
		}
	}
}

func TestInManyPartsOfEachSize(t *testing.T) {
	for k, n := range lengths {
		for size := 1; size <= 20; size++ {
			parts := slices.Collect(slices.Chunk(mixed(n), size))
			check(t, byKeys[0].sums[k], byKeys[0].key, parts...)
		}
	}
}

func TestInManyPartsOfOneByte(t *testing.T) {
	for n, want := range ofUp {
		check(t, want, upKey(), singles(up(n))...)
	}
	for _, of := range byKeys {
		for k, n := range lengths {
			check(t, of.sums[k], of.key, singles(mixed(n))...)
		}
	}
	for _, of := range ofMany {
		if of.n <= 1<<20 {
			check(t, of.sum, otherKey(), singles(mixed(of.n))...)
		}
	}
}

func TestEmptyAndNilPartsAheadBetweenAndBehind(t *testing.T) {
	empty := []byte{}
	for _, of := range byKeys {
		for k, n := range lengths {
			l, want := mixed(n), of.sums[k]
			check(t, want, of.key, nil, l)
			check(t, want, of.key, empty, l)
			check(t, want, of.key, l, nil)
			check(t, want, of.key, l, empty)
			check(t, want, of.key, l[:0], nil, l, l[n:], nil, empty)
			check(t, want, of.key, between(singles(l), nil)...)
			check(t, want, of.key, between(singles(l), empty)...)
			check(t, want, of.key, between(singles(l), empty, nil, l[:0])...)
			for place := range n + 1 {
				check(t, want, of.key, between([][]byte{l[:place], l[place:]}, nil, empty)...)
			}
		}
	}
}

// More empty parts than a byte counts: it is the bytes that are counted, not
// the parts.
func TestHowManyPartsThereAreDoesntTell(t *testing.T) {
	l := mixed(17)
	want := plain(otherKey(), l)
	for _, n := range []int{1, 7, 8, 255, 256, 257, 1000} {
		parts := slices.Concat(make([][]byte, n), [][]byte{l[:5]}, make([][]byte, n), [][]byte{l[5:]}, make([][]byte, n))
		check(t, want, otherKey(), parts...)
	}
}

func TestOnePartSeveralTimes(t *testing.T) {
	for size := range 20 {
		l := mixed(size)
		for times := range 40 {
			check(t, plain(upKey(), bytes.Repeat(l, times)), upKey(), slices.Repeat([][]byte{l}, times)...)
		}
	}
}

func TestPartsThatLieOverOneAnother(t *testing.T) {
	l := mixed(30)
	for a := range l {
		for b := range l {
			check(t, plain(otherKey(), slices.Concat(l[a:], l[:b], l)), otherKey(), l[a:], l[:b], l)
		}
	}
}

func TestTheOrderOfThePartsTells(t *testing.T) {
	for _, n := range []int{1, 4, 8, 12, 16, 300} {
		a, b := mixed(n), mixed(n+1)
		if Sum(upKey(), a, b) == Sum(upKey(), b, a) {
			t.Errorf("of %d and %d bytes", n, n+1)
		}
	}
}

// Far more bytes than are kept anywhere: one part over and over.
func TestManyMegabytes(t *testing.T) {
	l := mixed(1<<16 + 3)
	times := 300
	want := plain(otherKey(), slices.Repeat([][]byte{l}, times)...)
	check(t, want, otherKey(), slices.Repeat([][]byte{l}, times)...)
}

// What lies in a part's spare room, and in the spare room of the list of
// parts, isn't of the sum, and all of it is behind the call as it was.
func TestWhatIsHandedInStaysAsItWas(t *testing.T) {
	for _, n := range lengths {
		whole := mixed(n + 40)
		before := slices.Clone(whole)
		l := whole[20 : 20+n] // with 20 bytes ahead of it, and 20 of spare room
		want := plain(otherKey(), l)
		for place := range n + 1 {
			key := otherKey()
			spare := []byte{1, 2, 3}
			all := [][]byte{l[:place], nil, l[place:], {}, spare, nil}
			kept := slices.Clone(all)
			if got := Sum(key, all[:4]...); got != want {
				t.Fatalf("of %d bytes: %016x", n, got)
			}
			if key != otherKey() || !bytes.Equal(whole, before) || !bytes.Equal(spare, []byte{1, 2, 3}) {
				t.Fatalf("of %d bytes: %x, %x, %x", n, key, whole, spare)
			}
			checkSameParts(t, all, kept)
		}
	}
}

// checkSameParts fails unless the two lists have the same parts: the same
// memory with the same spare room, or nil where there was nil.
func checkSameParts(t *testing.T, got, want [][]byte) {
	t.Helper()
	for k, p := range got {
		w := want[k]
		if (p == nil) != (w == nil) || len(p) != len(w) || cap(p) != cap(w) {
			t.Fatalf("part %d is now %x, and was %x", k, p, w)
		}
		if cap(p) > 0 && &p[:1][0] != &w[:1][0] {
			t.Fatalf("part %d lies elsewhere", k)
		}
	}
}

// A sum is of what the parts have when it is asked for.
func TestWhatIsHandedInIsNotKept(t *testing.T) {
	l := mixed(20)
	parts := [][]byte{l[:9], l[9:]}
	for k := range 200 {
		check(t, plain(upKey(), l), upKey(), parts...)
		l[k%len(l)] += byte(k + 1)
	}
	clear(l)
	check(t, plain(upKey(), make([]byte, 20)), upKey(), parts...)
	parts[0] = nil
	check(t, plain(upKey(), make([]byte, 11)), upKey(), parts...)
}
