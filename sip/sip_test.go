package sip

import (
	"bytes"
	"encoding/binary"
	"math/rand"
	"sync"
	"testing"
)

// upKey is 0, 1, .., 15.
func upKey() [16]byte {
	return [16]byte(up(16))
}

// otherKey is a key whose bytes are all different, and in no order.
func otherKey() [16]byte {
	return byKeys[len(byKeys)-1].key
}

// fullKey is a key of one byte alone.
func fullKey(b byte) [16]byte {
	return [16]byte(bytes.Repeat([]byte{b}, 16))
}

// up is the bytes 0, 1, .., n of them.
func up(n int) []byte {
	l := make([]byte, n)
	for k := range l {
		l[k] = byte(k)
	}
	return l
}

// mixed is n bytes in which each place and n itself tell.
func mixed(n int) []byte {
	l := make([]byte, n)
	for k := range l {
		l[k] = byte(7*k*k + 13*k + n + k>>8)
	}
	return l
}

// plain is the chapter's words once more, as it were by hand: all the bytes
// are made one list of whole words first, behind which nothing is left over.
func plain(key [16]byte, parts ...[]byte) uint64 {
	l := bytes.Join(parts, nil)
	count := len(l)
	for len(l)%8 != 7 {
		l = append(l, 0)
	}
	l = append(l, byte(count%256))
	k0, k1 := binary.LittleEndian.Uint64(key[:8]), binary.LittleEndian.Uint64(key[8:])
	v := [4]uint64{k0 ^ 0x736f6d6570736575, k1 ^ 0x646f72616e646f6d, k0 ^ 0x6c7967656e657261, k1 ^ 0x7465646279746573}
	for ; len(l) > 0; l = l[8:] {
		m := binary.LittleEndian.Uint64(l)
		v[3] ^= m
		v = plainRound(plainRound(v))
		v[0] ^= m
	}
	v[2] ^= 0xff
	v = plainRound(plainRound(plainRound(plainRound(v))))
	return v[0] ^ v[1] ^ v[2] ^ v[3]
}

func plainRound(v [4]uint64) [4]uint64 {
	turn := func(n uint64, by int) uint64 { return n<<by | n>>(64-by) }
	half := func(a, b uint64, by int) (uint64, uint64) { return a + b, turn(b, by) ^ (a + b) }
	v[0], v[1] = half(v[0], v[1], 13)
	v[0] = turn(v[0], 32)
	v[2], v[3] = half(v[2], v[3], 16)
	v[0], v[3] = half(v[0], v[3], 21)
	v[2], v[1] = half(v[2], v[1], 17)
	v[2] = turn(v[2], 32)
	return v
}

// check fails unless the sum of the parts is as it ought to be.
func check(t *testing.T, want uint64, key [16]byte, parts ...[]byte) {
	t.Helper()
	if got := Sum(key, parts...); got != want {
		t.Fatalf("by %x, of %d bytes in %d parts: %016x, not %016x", key, len(bytes.Join(parts, nil)), len(parts), got, want)
	}
}

func TestTheChaptersExample(t *testing.T) {
	check(t, 0xa129ca6149be45e5, upKey(), up(15))
}

func TestSumsOfNoneAndMore(t *testing.T) {
	for n, want := range ofUp {
		check(t, want, upKey(), up(n))
	}
}

func TestSumsByManyKeys(t *testing.T) {
	for _, of := range byKeys {
		for k, n := range lengths {
			check(t, of.sums[k], of.key, mixed(n))
		}
	}
}

func TestSumsOfSoManyThatTheirNumberGoesRound(t *testing.T) {
	for _, of := range ofMany {
		check(t, of.sum, otherKey(), mixed(of.n))
	}
}

func TestSumsOfOneByteOverAndOver(t *testing.T) {
	for _, of := range ofOneByte {
		check(t, of.noughts, fullKey(0), make([]byte, of.n))
		check(t, of.ffs, fullKey(0xff), bytes.Repeat([]byte{0xff}, of.n))
	}
}

// apart fails if two of the sums that it is told are one.
func apart(t *testing.T) func(sum uint64, what string, n int) {
	seen := map[uint64]int{}
	return func(sum uint64, what string, n int) {
		t.Helper()
		if before, ok := seen[sum]; ok {
			t.Fatalf("%s %d has the sum of %d: %016x", what, n, before, sum)
		}
		seen[sum] = n
	}
}

func TestEachBitOfTheKeyTells(t *testing.T) {
	for _, n := range lengths {
		for _, key := range [][16]byte{fullKey(0), fullKey(0xff), upKey(), otherKey()} {
			tell := apart(t)
			tell(Sum(key, mixed(n)), "the key itself", -1)
			for bit := range 128 {
				other := key
				other[bit/8] ^= 1 << (bit % 8)
				tell(Sum(other, mixed(n)), "bit", bit)
			}
		}
	}
}

func TestTheHalvesOfTheKeyAreNotOneAnother(t *testing.T) {
	for _, n := range lengths {
		key := otherKey()
		turned := [16]byte(append(key[8:], key[:8]...))
		if Sum(key, mixed(n)) == Sum(turned, mixed(n)) {
			t.Errorf("of %d bytes", n)
		}
	}
}

func TestEachBitOfTheBytesTells(t *testing.T) {
	for _, n := range lengths {
		l := mixed(n)
		tell := apart(t)
		tell(Sum(otherKey(), l), "the bytes themselves", -1)
		for bit := range 8 * n {
			l[bit/8] ^= 1 << (bit % 8)
			tell(Sum(otherKey(), l), "bit", bit)
			l[bit/8] ^= 1 << (bit % 8)
		}
	}
}

// Noughts fill what is left up as well, so it is how many there are alone
// that tells them apart.
func TestHowManyThereAreTells(t *testing.T) {
	for _, key := range [][16]byte{fullKey(0), fullKey(0xff), upKey(), otherKey()} {
		tell := apart(t)
		for n := range 1100 {
			tell(Sum(key, make([]byte, n)), "the number", n)
		}
	}
}

func TestTheOrderOfTheBytesTells(t *testing.T) {
	l := mixed(40)
	want := Sum(upKey(), l)
	for a := range l {
		for b := range a {
			if l[a] == l[b] {
				continue
			}
			l[a], l[b] = l[b], l[a]
			if Sum(upKey(), l) == want {
				t.Errorf("places %d and %d", a, b)
			}
			l[a], l[b] = l[b], l[a]
		}
	}
}

func TestEachNumberOfBytesAgainstThePlainWay(t *testing.T) {
	for n := range 1100 {
		l := mixed(n)
		check(t, plain(otherKey(), l), otherKey(), l)
		check(t, plain(fullKey(byte(n)), l), fullKey(byte(n)), l)
	}
}

func TestDrawnBytesAgainstThePlainWay(t *testing.T) {
	draw := rand.New(rand.NewSource(7))
	for range 5000 {
		var key [16]byte
		draw.Read(key[:])
		l := make([]byte, draw.Intn(600))
		draw.Read(l)
		a, b := draw.Intn(len(l)+1), draw.Intn(len(l)+1)
		a, b = min(a, b), max(a, b)
		check(t, plain(key, l), key, l)
		check(t, plain(key, l), key, l[:a], l[a:b], l[b:])
	}
}

// Sums that were worked out ahead of it, of whatever, don't tell.
func TestTheSameIsAnsweredTheSame(t *testing.T) {
	for range 3 {
		for n, want := range ofUp {
			Sum(otherKey(), mixed(3*n+1))
			Sum(upKey())
			check(t, want, upKey(), up(n))
			check(t, want, upKey(), up(n))
		}
	}
}

func TestSeveralSumsAtOnce(t *testing.T) {
	l := up(len(ofUp))
	var all sync.WaitGroup
	for who := range 8 {
		all.Go(func() {
			for k := range 20 * len(ofUp) {
				n := (k + who) % len(ofUp)
				if got := Sum(upKey(), l[:n/2], l[n/2:n]); got != ofUp[n] {
					t.Errorf("of %d bytes: %016x", n, got)
					return
				}
			}
		})
	}
	all.Wait()
}

// FuzzAgainstThePlainWay parts the bytes that are handed in at the place that
// is handed in.
func FuzzAgainstThePlainWay(f *testing.F) {
	f.Add([]byte(nil), []byte(nil), 0)
	f.Add(up(16), up(15), 3)
	f.Add(bytes.Repeat([]byte{0xff}, 16), mixed(257), 256)
	f.Fuzz(func(t *testing.T, keyed, l []byte, place int) {
		var key [16]byte
		copy(key[:], keyed)
		place = max(0, min(place, len(l)))
		check(t, plain(key, l), key, l)
		check(t, plain(key, l), key, l[:place], l[place:])
	})
}
