package box

import (
	"math"
	"math/rand"
	"slices"
	"testing"

	"bailiff/api"
	"bailiff/table"
	"bailiff/token"
)

func TestNew(t *testing.T) {
	rooms := map[int]bool{
		math.MinInt: false, math.MinInt + 1: false, -topSlots: false, -1: false, 0: false, 1: true, 2: true,
		topSlots - 1: true, topSlots: true, topSlots + 1: false, 4096: false, 1<<32 + 1: false,
		math.MaxInt - 1: false, math.MaxInt: false,
	}
	terms := map[int64]bool{
		lowest: false, lowest + 1: false, -topTime: false, -1: false, 0: false, 1: true, 2: true,
		1 << 32: true, topTime - 1: true, topTime: true, topTime + 1: false, highest - 1: false, highest: false,
	}
	rates := map[int64]bool{
		lowest: false, -most: false, -1: false, 0: true, 1: true, most: true, most + 1: false, 1<<32 + 1: false, highest: false,
	}
	bursts := map[int64]bool{
		lowest: false, -most: false, -1: false, 0: false, 1: true, most: true, most + 1: false, 1<<32 + 1: false,
		1<<44 + 1: false, highest: false,
	}
	for room, a := range rooms {
		for term, b := range terms {
			for rate, c := range rates {
				for burst, d := range bursts {
					x, e := New(room, term, rate, burst)
					good := a && b && c && d
					if good && (x == nil || e != api.OK) || !good && (x != nil || e != api.ErrArg) {
						t.Errorf("New(%d, %d, %d, %d): %v, %v", room, term, rate, burst, x, e)
					}
				}
			}
		}
	}
}

// Of each room: nobody is in it at first, and there is room for just so many.
func TestNewOfEachRoom(t *testing.T) {
	for room := 1; room <= topSlots; room++ {
		b, e := New(room, 10, 1, 1)
		if e != api.OK {
			t.Fatalf("New(%d): %v", room, e)
		}
		for _, now := range moments {
			if l := b.All(now); len(l) != 0 {
				t.Fatalf("New(%d): All(%d): %v", room, now, l)
			}
			for k := range 3 {
				if b.In(who(k), now) || b.Take(who(k), now, 0) || b.Drop(who(k), now) {
					t.Fatalf("New(%d): %v is in it", room, who(k))
				}
			}
		}
		for k := range topSlots + 3 {
			want := api.OK
			if k >= room {
				want = api.ErrFull
			}
			if e := b.Put(who(k), 5); e != want || len(b.All(5)) != min(k+1, room) {
				t.Fatalf("New(%d): Put of %d others: %v", room, k, e)
			}
		}
	}
}

func TestTheChaptersExample(t *testing.T) {
	p := newPair(t, 1, 10, 1, 1)
	a := four(1)
	p.put(a, 0, api.OK)
	p.in(a, 9, true)
	p.in(a, 10, false)
}

func TestOneIsInUpToTheEndOfTheTerm(t *testing.T) {
	a, b := six(1), four(2)
	for _, term := range []int64{1, 2, 3, 10, parts, 1 << 32, 1 << 61, topTime - 1, topTime} {
		for _, from := range []int64{0, 1, 2, 1000, 1<<32 - 1, topTime - term, topCount - term} {
			end := from + term
			if end > topCount {
				continue
			}
			for _, now := range []int64{lowest, -1, 0, from - 1, from, from + 1, end - 2, end - 1} {
				if now >= end {
					continue
				}
				p := newPair(t, 1, term, parts, 5)
				p.put(a, from, api.OK)
				p.in(a, now, true)
				p.in(b, now, false)
				p.all(now, a)
				p.take(a, now, 1, true)
				p.put(a, now, api.ErrTwice)
				p.put(b, now, api.ErrFull)
				p.drop(b, now, false)
				p.drop(a, now, true)
			}
			for _, now := range []int64{end, end + 1, end + 2, topCount, topCount + 1, highest} {
				over := func() *pair {
					p := newPair(t, 1, term, parts, 5)
					p.put(a, from, api.OK)
					p.in(a, end-1, true)
					return p
				}
				over().in(a, now, false)
				over().all(now)
				over().take(a, now, 0, false)
				over().drop(a, now, false)
				over().put(a, now, api.OK)
				over().put(b, now, api.OK)
			}
		}
	}
}

// Whatever the call, who was let go by it isn't in it at an earlier moment.
func TestWhoWasLetGoDoesntComeBack(t *testing.T) {
	a, b, c := six(1), four(2), four(3)
	for _, call := range []func(p *pair){
		func(p *pair) { p.put(c, 110, api.OK) },
		func(p *pair) { p.put(b, 110, api.ErrTwice) },
		func(p *pair) { p.in(a, 110, false) },
		func(p *pair) { p.in(b, 110, true) },
		func(p *pair) { p.in(c, 110, false) },
		func(p *pair) { p.take(a, 110, 1, false) },
		func(p *pair) { p.take(b, 110, 1, true) },
		func(p *pair) { p.take(b, 110, 99, false) },
		func(p *pair) { p.take(b, 110, -1, false) },
		func(p *pair) { p.take(c, 110, 1, false) },
		func(p *pair) { p.drop(a, 110, false) },
		func(p *pair) { p.drop(b, 110, true) },
		func(p *pair) { p.drop(c, 110, false) },
		func(p *pair) { p.all(110, b) },
	} {
		for _, back := range []int64{lowest, -1, 0, 50, 100, 105, 109} {
			p := newPair(t, 2, 10, parts, 10)
			p.put(a, 100, api.OK)
			p.put(b, 101, api.OK)
			call(p)
			p.in(a, back, false)
			p.take(a, back, 0, false)
			p.drop(a, back, false)
			p.tryAll(back)
		}
	}
}

// A moment that goes back is looked at as it is: also one ahead of Put.
func TestMomentsThatGoBack(t *testing.T) {
	a, b, c := six(1), four(2), four(3)
	p := newPair(t, 3, 10, parts, 10)
	p.put(a, 100, api.OK)
	for _, now := range []int64{109, 99, 0, -1, lowest, 105} {
		p.in(a, now, true)
		p.all(now, a)
		p.put(a, now, api.ErrTwice)
		p.take(a, now, 0, true)
	}
	// Whoever is put in earlier has its end earlier, though a was there ahead.
	p.put(b, 50, api.OK)
	p.put(c, -7, api.OK)
	p.all(9, b, c, a)
	p.in(c, 10, false)
	p.all(59, b, a)
	p.all(60, a)
	p = newPair(t, 3, 10, parts, 10)
	p.put(a, 100, api.OK)
	p.put(c, -7, api.OK)
	p.put(b, 5, api.OK)
	p.in(c, 9, true)
	p.in(c, 10, false)
	p.all(14, b, a)
	p.all(15, a)
	p.put(b, 59, api.OK)
	p.in(b, 68, true)
	p.in(b, 69, false)
	p.in(a, 109, true)
	p.drop(a, 3, true)
	p.all(0)
}

func TestPutOfOneWhoIsInIt(t *testing.T) {
	a, b := six(1), four(2)
	for _, room := range []int{1, 2, 3} {
		for _, now := range []int64{lowest, -1, 0, 99, 100, 101, 108, 109} {
			p := newPair(t, room, 10, parts, 10)
			p.put(a, 100, api.OK)
			p.take(a, 100, 9, true)
			p.put(a, now, api.ErrTwice)
			p.put(a, now, api.ErrTwice)
			// Neither its term nor its tokens begin anew.
			p.has(a, 100, 1)
			p.in(a, 109, true)
			p.in(a, 110, false)
			p.put(a, 110, api.OK)
			p.has(a, 110, 10)
			p.put(b, now, []api.Errno{api.ErrFull, api.OK, api.OK}[room-1])
		}
	}
}

func TestPutWhereThereIsNoRoom(t *testing.T) {
	for _, room := range []int{1, 2, 3, topSlots} {
		p := full(t, room, 10, 100)
		all := p.box.All(100)
		for _, now := range []int64{lowest, -1, 0, 100, 105, 109} {
			for _, x := range []api.Prefix{{}, {V6: true}, who(room), four(255, 255), six(255, 255)} {
				if !slices.Contains(all, x) {
					p.put(x, now, api.ErrFull)
					p.in(x, now, false)
					p.take(x, now, 0, false)
					p.drop(x, now, false)
				}
			}
			for _, x := range all {
				p.put(x, now, api.ErrTwice)
			}
			p.all(now, all...)
		}
		// Nobody who was refused is in it when there is room.
		p.all(110)
		p.put(who(room), 110, api.OK)
		p.all(110, who(room))
	}
}

// Where there is no room till somebody's term is over, whoever that is.
func TestPutWhereOnesTermIsOver(t *testing.T) {
	for _, room := range []int{1, 2, 3, topSlots} {
		for first := 0; first < room; first += 1 + room/8 {
			p := newPair(t, room, 100, parts, 10)
			p.put(who(first), 0, api.OK)
			for k := range room {
				if k != first {
					p.put(who(k), 1, api.OK)
				}
			}
			p.put(who(room), 99, api.ErrFull)
			p.put(who(room), 100, api.OK)
			p.in(who(first), 99, false)
			p.put(who(first), 100, api.ErrFull)
			p.put(who(room), 100, api.ErrTwice)
			p.all(101, who(room))
			p.in(who(room), 199, true)
			p.in(who(room), 200, false)
		}
	}
}

func TestPutOfOneWhoWasDropped(t *testing.T) {
	a, b := six(1), four(2)
	for _, now := range []int64{0, 99, 100, 105, 109} {
		p := newPair(t, 2, 10, parts, 10)
		p.put(a, 100, api.OK)
		p.put(b, 100, api.OK)
		p.has(a, 100, 10)
		p.drop(a, 100, true)
		p.put(a, now, api.OK)
		p.has(a, now, 10)
		p.in(a, now+9, true)
		p.in(a, now+10, false)
	}
}

func TestTake(t *testing.T) {
	a := six(1)
	for _, from := range []int64{-5, 0, 1, 100, 1 << 40, topTime - 20} {
		now := max(from, 0)
		p := newPair(t, 1, 20, parts/2, 10)
		p.put(a, from, api.OK)
		p.has(a, from, 10)
		p.take(a, now+1, 1, false) // half a one
		p.take(a, now+2, 1, true)
		p.take(a, now+2, 1, false)
		p.take(a, now+9, 4, false)
		p.has(a, now+9, 3)
		p.has(a, now+10, 1)
		p.has(a, now+19, 4)
		p.take(a, now+20, 0, false)
	}
}

// What came ahead of the moment of Put doesn't count, and what came behind it
// does, up to the burst.
func TestTheTokensMomentIsThatOfPut(t *testing.T) {
	a := four(9)
	for _, from := range []int64{0, 1, 7, 1000, 1 << 50, topTime - 100} {
		p := newPair(t, 1, 100, parts, 10)
		p.put(a, from, api.OK)
		for _, now := range []int64{lowest, -1, 0, from - 1, from} {
			p.take(a, now, 1, true)
		}
		p.has(a, from, 5)
		p.take(a, from-1, 1, false)
		p.has(a, from+3, 3)
		p.has(a, from+99, 10)
	}
}

// A moment that goes back brings nothing, and takes nothing back.
func TestTakeAtMomentsThatGoBack(t *testing.T) {
	a := four(9)
	for _, back := range []int64{lowest, -1, 0, 99, 100, 101, 104} {
		p := newPair(t, 1, 10, parts, 10)
		p.put(a, 100, api.OK)
		p.has(a, 100, 10)
		p.take(a, 104, 1, true)
		p.take(a, back, 4, false)
		p.has(a, back, 3)
		p.has(a, 106, 2)
	}
}

func TestTakeOfEachNumber(t *testing.T) {
	a := four(9)
	for _, n := range []int64{lowest, lowest + 1, -most, -1, 11, most, most + 1, 1 << 44, 1<<44 + 1, topCount, highest} {
		p := newPair(t, 1, 10, parts, 10)
		p.put(a, 100, api.OK)
		p.take(a, 100, n, false)
		p.has(a, 100, 10)
	}
	for n := range int64(11) {
		p := newPair(t, 1, 10, parts, 10)
		p.put(a, 100, api.OK)
		p.take(a, 100, n, true)
		p.has(a, 100, 10-n)
	}
	for _, n := range []int64{0, 1, most - 1, most} {
		p := newPair(t, 1, 10, 0, most)
		p.put(a, 100, api.OK)
		p.take(a, 100, n, true)
		p.has(a, 109, most-n)
	}
	for _, n := range []int64{lowest, -1, most + 1, highest} {
		p := newPair(t, 1, 10, most, most)
		p.put(a, 100, api.OK)
		p.take(a, 100, n, false)
		p.has(a, 109, most)
	}
}

// Where nothing is taken, the tokens' moment is the later one nevertheless.
func TestWhatIsRefusedMovesTheTokensMoment(t *testing.T) {
	a := four(9)
	for _, n := range []int64{lowest, -1, 5, 11, most + 1, highest} {
		p := newPair(t, 1, 10, parts, 10)
		p.put(a, 100, api.OK)
		p.has(a, 100, 10)
		p.take(a, 104, n, false)
		p.has(a, 100, 4)
	}
}

func TestTakeOfOneWhoIsNotInIt(t *testing.T) {
	a, b := four(9), six(9)
	for _, n := range []int64{lowest, -1, 0, 1, most, most + 1, highest} {
		p := newPair(t, 1, 10, parts, 10)
		p.take(a, 0, n, false)
		p.put(a, 100, api.OK)
		p.take(b, 100, n, false)
		p.take(a, 110, n, false)
		p.put(a, 100, api.OK)
		p.drop(a, 100, true)
		p.take(a, 100, n, false)
	}
}

func TestEachHasTokensOfItsOwn(t *testing.T) {
	p := full(t, topSlots, 1000, 100)
	for k := range topSlots {
		p.has(who(k), 100, 10)
	}
	for k := range topSlots {
		p.has(who(k), 101+int64(k), min(int64(k)+1, 10))
	}
}

func TestWhoIsPutInAgainHasTheBurstAnew(t *testing.T) {
	a := four(9)
	p := newPair(t, 1, 10, 0, 10)
	now := int64(0)
	for range 20 {
		p.put(a, now, api.OK)
		p.has(a, now, 10)
		p.has(a, now+9, 0)
		now += 10
	}
	// And no more than that, however much was left.
	p.put(a, 1000, api.OK)
	p.drop(a, 1000, true)
	p.put(a, 1000, api.OK)
	p.has(a, 1000, 10)
}

// The others stay, each with its term and its tokens, and there is room.
func TestDropOfEach(t *testing.T) {
	for _, room := range []int{1, 2, 3, 4, topSlots} {
		for k := 0; k < room; k += 1 + room/3 {
			p := newPair(t, room, 100, parts, 100)
			for j := range room {
				p.put(who(j), int64(j), api.OK)
				p.take(who(j), int64(j), 100-int64(j), true)
			}
			p.put(who(room), 70, api.ErrFull)
			p.drop(who(room), 70, false)
			p.drop(who(k), 70, true)
			p.drop(who(k), 70, false)
			p.in(who(k), 70, false)
			p.take(who(k), 70, 0, false)
			for j := range room {
				if j != k {
					p.has(who(j), 70, 70)
				}
			}
			p.put(who(room), 70, api.OK)
			p.put(who(room+1), 70, api.ErrFull)
			for j := range room {
				p.in(who(j), int64(j)+99, j != k)
				p.in(who(j), int64(j)+100, false)
			}
			p.all(169, who(room))
		}
	}
}

func TestDropOfOneWhoseTermIsOver(t *testing.T) {
	a, b := four(9), six(9)
	for _, now := range []int64{110, 111, 1 << 40, topTime, topTime + 1, highest} {
		p := newPair(t, 1, 10, 1, 1)
		p.put(a, 100, api.OK)
		p.drop(a, now, false)
		p.drop(a, 100, false)
		p.put(b, 100, api.OK)
	}
}

func TestAllIsInOrder(t *testing.T) {
	want := []api.Prefix{
		{}, four(0, 0, 0, 0, 0, 0, 1), four(0, 1), four(1), four(127, 255), four(128), four(255, 255, 255, 255, 255, 255, 255),
		{V6: true}, six(0, 0, 0, 0, 0, 0, 1), six(0, 1), six(1), six(127, 255), six(128), six(255, 255, 255, 255, 255, 255, 255),
	}
	for seed := range int64(100) {
		draw := rand.New(rand.NewSource(seed))
		p := newPair(t, len(want), 1000, 1, 1)
		for k, at := range draw.Perm(len(want)) {
			p.put(want[at], int64(k), api.OK)
		}
		p.all(999, want...)
	}
}

// One after the other goes, in another order than the one in which they stand.
func TestAllAtEachMoment(t *testing.T) {
	p := newPair(t, topSlots, 100, 1, 1)
	for k := range topSlots {
		p.put(who(k), int64(k), api.OK)
	}
	for now := range int64(170) {
		var want []api.Prefix
		for k := range topSlots {
			if int64(k)+100 > now {
				want = append(want, who(k))
			}
		}
		p.all(now, sorted(want)...)
		if now%7 == 0 {
			p.all(now-5, want...)
		}
	}
}

// Neither is the list changed when the box is, nor the other way round, in its
// spare room as little.
func TestListsShareNothingWithTheBox(t *testing.T) {
	p := full(t, 5, 10, 0)
	all := p.box.All(5)
	kept, other := slices.Clone(all), p.box.All(5)
	for _, l := range [][]api.Prefix{all, other} {
		l = l[:cap(l)]
		for k := range l {
			l[k] = six(9, 9, 9)
		}
		p.check()
	}
	all, other = p.box.All(5), p.box.All(5)
	for k := range all[:cap(all)] {
		all[:cap(all)][k] = four(8)
	}
	p.drop(kept[0], 5, true)
	p.drop(kept[3], 5, true)
	p.put(four(1), 5, api.OK)
	p.put(six(255), 5, api.OK)
	p.in(kept[1], 10, false)
	if !slices.Equal(other, kept) {
		t.Errorf("%v, not %v", other, kept)
	}
	for k := range all[:cap(all)] {
		if all[:cap(all)][k] != four(8) {
			t.Errorf("%d: %v", k, all[:cap(all)][k])
		}
	}
}

// An end beyond MaxCount is MaxCount: who is put in at that moment, or behind
// it, isn't in it at any moment that isn't earlier.
func TestAtTheEndOfTime(t *testing.T) {
	a, b := four(9), six(9)
	for _, term := range []int64{1, 2, 10, 1 << 61, topTime - 1, topTime} {
		for _, from := range []int64{topTime - 1, topTime, topTime + 1, topTime + 2, highest - 1, highest} {
			end := from
			if from <= topTime {
				end = min(topCount-from, term) + from
			}
			p := newPair(t, 1, term, parts, 10)
			p.put(a, from, api.OK)
			p.in(a, min(end, topCount)-1, true)
			p.has(a, min(end, topCount)-1, 10)
			if from >= topCount {
				// As its term is over, it isn't there twice.
				p.put(a, from, api.OK)
				p.put(b, from, api.OK)
				p.put(a, topTime, api.ErrFull)
				p.put(b, topTime, api.ErrTwice)
				p.take(b, from, 0, false)
				p.put(b, from, api.OK)
				p.drop(b, from, false)
				p.put(b, from, api.OK)
				p.drop(b, topTime, true)
				continue
			}
			p.in(a, end, false)
			p.in(a, from, false)
		}
	}
	p := newPair(t, 1, topTime, parts, 10)
	p.put(a, 0, api.OK)
	p.in(a, topTime-1, true)
	p.in(a, topTime, false)
	p.put(a, 1, api.OK)
	p.in(a, topTime, true)
	p.in(a, topTime+1, false)
	p.put(a, 2, api.OK)
	p.in(a, topTime, true)
	p.in(a, topTime+1, false)
}

// The tokens' moment is that of Put also beyond MaxCount.
func TestTokensBeyondMaxCount(t *testing.T) {
	a := four(9)
	for _, from := range []int64{topTime - 5, topCount, topCount + 1, topCount + 1000, highest - 1} {
		p := newPair(t, 1, topTime, parts, 10)
		p.put(a, from, api.OK)
		p.has(a, topTime-5, 10)
		p.has(a, topTime-1, map[bool]int64{true: 4}[from < topCount])
	}
}

func TestMomentsBelow0(t *testing.T) {
	a, b := four(9), six(9)
	for _, from := range []int64{lowest, lowest + 1, -topCount, -10, -1, 0} {
		for _, now := range []int64{lowest, -topCount, -1, 0} {
			p := newPair(t, 1, 1, parts, 10)
			p.put(a, from, api.OK)
			p.in(a, now, true)
			p.has(a, now, 10)
			p.take(a, now, 1, false)
			p.all(now, a)
			p.put(a, now, api.ErrTwice)
			p.put(b, now, api.ErrFull)
			p.drop(b, now, false)
			p.drop(a, now, true)
			p.put(b, now, api.OK)
			p.in(b, 1, false)

			p = newPair(t, 1, 10, parts, 10)
			p.put(a, from, api.OK)
			p.has(a, now, 10)
			p.has(a, 3, 3)
			p.in(a, 9, true)
			p.in(a, 10, false)
		}
	}
}

func TestOfNone(t *testing.T) {
	var b *Box
	for _, now := range moments {
		for _, x := range []api.Prefix{{}, {V6: true}, four(1), six(255)} {
			if e := b.Put(x, now); e != api.ErrArg {
				t.Errorf("Put(%v, %d): %v", x, now, e)
			}
			if b.In(x, now) || b.Drop(x, now) {
				t.Errorf("%v is in none at %d", x, now)
			}
			for _, n := range []int64{lowest, -1, 0, 1, most, most + 1, highest} {
				if b.Take(x, now, n) {
					t.Errorf("Take(%v, %d, %d)", x, now, n)
				}
			}
		}
		if l := b.All(now); len(l) != 0 {
			t.Errorf("All(%d): %v", now, l)
		}
	}
}

// Of those that are made by hand nothing is promised but that no call panics.
func TestMadeByHand(t *testing.T) {
	tokens, _ := token.New(1, 1)
	for _, s := range []stay{{}, {end: lowest}, {end: 5}, {end: highest}, {end: highest, tokens: tokens}, {end: 3, tokens: &token.Tokens{}}} {
		stays, _ := table.New[stay](2)
		stays.Put(four(1), s)
		for _, b := range []*Box{
			{}, {term: 10, rate: 1, burst: 1}, {stays: &table.Table[stay]{}}, {stays: stays},
			{stays: stays, term: lowest, rate: lowest, burst: lowest},
			{stays: stays, term: highest, rate: highest, burst: highest},
		} {
			for _, now := range moments {
				for _, x := range []api.Prefix{{}, four(1), six(1)} {
					b.In(x, now)
					b.Take(x, now, 1)
					b.All(now)
					b.Put(x, now)
					b.Take(x, now, 1)
					b.Drop(x, now)
					b.Put(x, now)
				}
			}
		}
	}
}

func TestTwoDontDisturbEachOther(t *testing.T) {
	a, b := full(t, 4, 10, 0), full(t, 4, 20, 0)
	a.drop(who(0), 3, true)
	b.check()
	b.has(who(1), 3, 10)
	a.has(who(1), 3, 10)
	a.all(10)
	b.check()
	b.in(who(0), 19, true)
	a.put(who(0), 4, api.OK)
	b.all(20)
	a.check()
}

// Each call at each edge, behind each call at each edge.
func TestEveryEdge(t *testing.T) {
	a, b := four(9), six(9)
	calls := []func(p *pair, now int64){
		func(p *pair, now int64) { p.tryPut(a, now) },
		func(p *pair, now int64) { p.tryPut(b, now) },
		func(p *pair, now int64) { p.tryIn(a, now) },
		func(p *pair, now int64) { p.tryTake(a, now, 7) },
		func(p *pair, now int64) { p.tryDrop(a, now) },
		func(p *pair, now int64) { p.tryAll(now) },
	}
	for _, term := range []int64{1, 10, topTime} {
		for room := 1; room <= 2; room++ {
			for _, first := range moments {
				for _, second := range moments {
					for one := range calls {
						for two := range calls {
							p := newPair(t, room, term, parts, 10)
							p.tryPut(a, first)
							calls[one](p, second)
							calls[two](p, first)
							calls[one](p, second)
						}
					}
				}
			}
		}
	}
}

// Every line of steps that is so short, at moments that come and go back.
func TestEveryShortLineOfSteps(t *testing.T) {
	a, b := six(0, 1), four(1)
	steps := []func(p *pair, now int64){
		func(p *pair, now int64) { p.tryPut(a, now) },
		func(p *pair, now int64) { p.tryPut(b, now) },
		func(p *pair, now int64) { p.tryTake(a, now, 2) },
		func(p *pair, now int64) { p.tryDrop(a, now) },
		func(p *pair, now int64) { p.tryAll(now) },
	}
	when := []int64{0, 1, 3}
	all := len(steps) * len(when)
	for room := 1; room <= 2; room++ {
		for line := range all * all * all * all {
			p := newPair(t, room, 2, parts/2, 3)
			for range 4 {
				steps[line%len(steps)](p, when[line/len(steps)%len(when)])
				line /= all
			}
		}
	}
}

// drawnMoment is mostly a moment not long behind now.
func drawnMoment(draw *rand.Rand, now, far int64) int64 {
	switch draw.Intn(12) {
	case 0:
		return moments[draw.Intn(12)]
	case 1, 2:
		return now - draw.Int63n(far)
	case 3, 4, 5:
		return now
	case 6:
		if draw.Intn(40) == 0 {
			return highest - draw.Int63n(far)
		}
	}
	if now > highest-far {
		return now
	}
	return now + draw.Int63n(far)
}

// drawnNumber is mostly about as many as the burst, or a part of it.
func drawnNumber(draw *rand.Rand, burst int64) int64 {
	switch draw.Intn(10) {
	case 0:
		return []int64{lowest, -1, 0, burst + 1, most, most + 1, highest}[draw.Intn(7)]
	case 1, 2, 3:
		return burst
	}
	return draw.Int63n(burst + 1)
}

func TestDrawnSteps(t *testing.T) {
	rates := []int64{0, 1, 1000, parts / 3, parts, most}
	bursts := []int64{1, 2, 10, 1500, most}
	for seed := range int64(240) {
		draw := rand.New(rand.NewSource(seed))
		room := 1 + draw.Intn(6)
		if seed%8 == 0 {
			room = 1 + draw.Intn(topSlots)
		}
		term := 1 + draw.Int63n(1<<(1+draw.Intn(40)))
		if seed%30 == 0 {
			term = topTime - draw.Int63n(3)
		}
		far := 1 + term/int64(1+draw.Intn(12))
		p := newPair(t, room, term, rates[draw.Intn(len(rates))], bursts[draw.Intn(len(bursts))])
		var now int64
		for range 150 {
			x := who(draw.Intn(room + 3))
			at := drawnMoment(draw, now, far)
			if at > now && at < topCount {
				now = at
			}
			switch draw.Intn(9) {
			case 0, 1, 2:
				p.tryPut(x, at)
			case 3:
				p.tryIn(x, at)
			case 4, 5, 6:
				p.tryTake(x, at, drawnNumber(draw, p.plain.burst))
			case 7:
				p.tryDrop(x, at)
			case 8:
				p.tryAll(at)
			}
		}
	}
}
