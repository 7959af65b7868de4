package table

import (
	"slices"
	"testing"

	"bailiff/api"
)

// marks are bytes at the edges: of a sign, and of all there are.
var marks = []byte{0, 1, 126, 127, 128, 129, 254, 255}

// strewn are prefixes of both versions that are alike but for one byte, or for
// few.
func strewn() []api.Prefix {
	var l []api.Prefix
	for _, v6 := range []bool{true, false} {
		l = append(l, prefix(v6, nil), prefix(v6, []byte{255, 255, 255, 255, 255, 255, 255}))
		for k := range 7 {
			for _, x := range []byte{1, 127, 128, 255} {
				addr := make([]byte, 7)
				addr[k] = x
				l = append(l, prefix(v6, addr))
			}
		}
		l = append(l, prefix(v6, []byte{127, 255, 255}), prefix(v6, []byte{128, 0, 0, 0, 0, 0, 1}), prefix(v6, []byte{0, 255, 0, 255, 0, 255}))
	}
	return l
}

// ahead ends the test unless a stands ahead of b, and b not ahead of a.
func ahead(t *testing.T, a, b api.Prefix) {
	t.Helper()
	if !Less(a, b) || Less(b, a) {
		t.Fatalf("Less(%v, %v): %v, and %v the other way round", a, b, Less(a, b), Less(b, a))
	}
}

func TestLessOfTwoAlike(t *testing.T) {
	for _, p := range strewn() {
		if Less(p, p) {
			t.Errorf("Less(%v, itself)", p)
		}
	}
}

// Those of IPv4 stand first, whatever their Addr.
func TestLessOfBothVersions(t *testing.T) {
	for _, a := range strewn() {
		for _, b := range strewn() {
			a.V6, b.V6 = false, true
			ahead(t, a, b)
		}
	}
}

// Each two bytes at each place; what stands behind it tells nothing then.
func TestLessAtEachByte(t *testing.T) {
	for k := range 7 {
		for low := range 256 {
			for high := low + 1; high < 256; high++ {
				a, b := api.Prefix{V6: high%2 == 0}, api.Prefix{V6: high%2 == 0}
				a.Addr[k], b.Addr[k] = byte(low), byte(high)
				ahead(t, a, b)
				for j := k + 1; j < 7; j++ {
					a.Addr[j] = 255
				}
				ahead(t, a, b)
				for j := range k {
					a.Addr[j], b.Addr[j] = byte(low+j), byte(low+j)
				}
				ahead(t, a, b)
			}
		}
	}
}

// The first byte that is another one decides, and each of them can be it.
func TestLessByTheFirstByteThatIsAnother(t *testing.T) {
	l := []api.Prefix{
		four(), four(0, 0, 0, 0, 0, 0, 1), four(0, 0, 0, 0, 0, 0, 255), four(0, 0, 0, 0, 0, 1), four(0, 0, 0, 0, 1),
		four(0, 0, 0, 127, 255, 255, 255), four(0, 0, 0, 128), four(0, 0, 1), four(0, 1), four(0, 255, 255, 255), four(1),
		four(1, 0, 0, 0, 0, 0, 7), four(127), four(127, 255), four(128), four(255), four(255, 255, 255),
		six(), six(0, 0, 0, 0, 0, 0, 1), six(0, 0, 0, 1), six(0, 9), six(1), six(32, 1, 13, 184), six(32, 1, 13, 184, 0, 0, 1),
		six(32, 1, 13, 184, 0, 1), six(32, 1, 14), six(127, 255, 255, 255, 255, 255, 255), six(128), six(255),
	}
	for k, a := range l {
		for j, b := range l {
			if Less(a, b) != (k < j) {
				t.Errorf("Less(%v, %v): %v", a, b, Less(a, b))
			}
		}
	}
}

// Of any two one stands ahead, or they are the same; and who stands ahead of
// one stands ahead of those behind that one.
func TestLessOfAnyThree(t *testing.T) {
	l := strewn()
	for _, a := range l {
		for _, b := range l {
			if Less(a, b) != (text(a) < text(b)) || Less(a, b) == Less(b, a) && a != b {
				t.Fatalf("Less(%v, %v): %v", a, b, Less(a, b))
			}
			if !Less(a, b) {
				continue
			}
			for _, c := range l {
				if Less(b, c) && !Less(a, c) {
					t.Fatal(a, b, c)
				}
			}
		}
	}
}

// All is in order, whatever the order in which they were put.
func TestAllOfEachOrder(t *testing.T) {
	for _, want := range [][]api.Prefix{
		{four(7), six(7)},
		{four(0), four(127), four(128), four(255), six(0), six(127)},
		{four(1, 2, 0), four(1, 2, 127), four(1, 2, 128), four(1, 2, 255), six(0, 255), six(1)},
		{six(), six(0, 0, 0, 0, 0, 0, 1), six(0, 0, 0, 0, 0, 0, 128), six(0, 0, 0, 1), six(0, 128), six(1)},
		{four(9, 0, 3), four(9, 1, 2), four(9, 2, 1), six(9, 0, 3), six(9, 1, 2), six(9, 2, 1)},
	} {
		for _, order := range orders(want) {
			p := newPair(t, len(want))
			p.puts(order...)
			p.is(want...)
			p.puts(order...)
			p.is(want...)
		}
	}
}

// Prefixes that differ in one byte alone, in each place, and in the version.
func TestAllByEachByte(t *testing.T) {
	for k := range 7 {
		for _, rest := range []byte{0, 5, 128, 255} {
			var want []api.Prefix
			for _, v6 := range []bool{false, true} {
				for _, x := range marks {
					addr := slices.Repeat([]byte{rest}, 7)
					addr[k] = x
					want = append(want, prefix(v6, addr))
				}
			}
			for step := range len(want) {
				if step%2 == 0 {
					continue
				}
				p := newPair(t, len(want))
				for j := range want {
					p.puts(want[(j*step+k)%len(want)])
				}
				p.is(want...)
			}
		}
	}
}

// A full one, from either end and mixed up.
func TestAllOfAFullOne(t *testing.T) {
	var want []api.Prefix
	for k := range topSlots {
		want = append(want, prefix(k >= topSlots/2, []byte{200, byte(k % 32 / 8 * 85), 3, 4, 5, byte(k % 8 * 36), 6}))
	}
	for _, step := range []int{1, topSlots - 1, 5, 27, 43} {
		p := newPair(t, topSlots)
		for k := range want {
			p.puts(want[(k*step+step-1)%topSlots])
		}
		p.is(want...)
	}
}

// spoil changes all of a list, its spare room too.
func spoil(l []api.Prefix) {
	l = l[:cap(l)]
	for k := range l {
		l[k] = six(99, byte(k))
	}
}

// What All answered may be changed, and the table stays as it is; nor do two
// answers share anything.
func TestTheTableStaysWhenTheListIsChanged(t *testing.T) {
	for _, room := range rooms {
		for _, here := range []int{0, 1, room / 2, room - 1, room} {
			p := newPair(t, room)
			for k := range here {
				p.puts(who(k))
			}
			first, second := p.table.All(), p.table.All()
			was := slices.Clone(second)
			spoil(first)
			_ = append(first, six(98))
			if !slices.Equal(second, was) {
				t.Fatal("two answers share what they have")
			}
			p.check()
			p.put(who(here))
			spoil(second)
			p.check()
			p.del(who(here / 2))
			p.check()
		}
	}
}

// What All answered stays as it is, whatever happens to the table behind it;
// its spare room too.
func TestTheListStaysWhenTheTableIsChanged(t *testing.T) {
	for _, room := range rooms {
		p := newPair(t, room)
		var lists, were [][]api.Prefix
		keep := func() {
			l := p.table.All()
			l = l[:cap(l)]
			lists, were = append(lists, l), append(were, slices.Clone(l))
		}
		for k := range room {
			p.puts(who(k))
			keep()
		}
		for k := range room {
			p.put(who(k))
			p.del(who((k * 5) % room))
			keep()
			p.put(who(room + k))
			keep()
		}
		for k := range lists {
			if !slices.Equal(lists[k], were[k]) {
				t.Fatalf("of %d: list %d is %v, was %v", room, k, lists[k], were[k])
			}
		}
	}
}
