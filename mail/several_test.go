package mail

import (
	"math"
	"runtime"
	"slices"
	"sync"
	"sync/atomic"
	"testing"

	"bailiff/api"
)

// thing is who put it in, and its number among those of that one.
type thing struct {
	who, number int
}

// together calls do for 0 to n - 1, all at once, and waits for all of them.
func together(n int, do func(who int)) {
	var all sync.WaitGroup
	begin := make(chan struct{})
	for who := range n {
		all.Go(func() {
			<-begin
			do(who)
		})
	}
	close(begin)
	all.Wait()
}

// checkOrder fails if of some putter a later thing is ahead of an earlier
// one.
func checkOrder(t *testing.T, things []thing) {
	t.Helper()
	last := map[int]int{}
	for _, x := range things {
		before, ok := last[x.who]
		if ok && x.number <= before {
			t.Fatalf("%v came behind number %d", x, before)
		}
		last[x.who] = x.number
	}
}

// checkWhole fails unless the things are the first each ones of so many
// putters, each of them once.
func checkWhole(t *testing.T, things []thing, putters, each int) {
	t.Helper()
	seen := map[thing]int{}
	for _, x := range things {
		seen[x]++
	}
	if len(things) != putters*each || len(seen) != putters*each {
		t.Fatalf("%d things, %d of them different, not %d", len(things), len(seen), putters*each)
	}
	for x := range seen {
		if x.who < 0 || x.who >= putters || x.number < 0 || x.number >= each {
			t.Fatalf("%v was never put in", x)
		}
	}
}

// putAll puts a putter's first n things in, however often there is no room.
func putAll(b *Box[thing], who, n int) {
	for number := range n {
		for !b.Put(thing{who, number}) {
			runtime.Gosched()
		}
	}
}

// takeAll takes till all takers together, by the count that they share,
// have taken n.
func takeAll(b *Box[thing], most int, count *atomic.Int64, n int) []thing {
	var got []thing
	for count.Load() < int64(n) {
		var l []thing
		if most > 0 {
			l = b.Drain(most)
		} else if x, ok := b.Take(); ok {
			l = []thing{x}
		}
		if len(l) == 0 {
			runtime.Gosched()
		}
		count.Add(int64(len(l)))
		got = append(got, l...)
	}
	return got
}

func TestSeveralPutTakeAndDrainAtOnce(t *testing.T) {
	const each = 2000
	for _, room := range []int{1, 2, 7, 64, api.MaxRoom} {
		for _, n := range [][2]int{{1, 1}, {1, 4}, {4, 1}, {4, 5}} {
			putters, takers := n[0], n[1]
			b := made[thing](t, room)
			got := make([][]thing, takers)
			var count atomic.Int64
			together(putters+takers, func(who int) {
				if who < putters {
					putAll(b, who, each)
				} else { // the first taker takes, the others drain, each another number
					taker := who - putters
					got[taker] = takeAll(b, []int{0, 3, 1, math.MaxInt, room}[taker], &count, putters*each)
				}
			})
			for _, l := range got {
				checkOrder(t, l)
			}
			checkWhole(t, slices.Concat(got...), putters, each)
			if b.Len() != 0 {
				t.Fatalf("Len %d", b.Len())
			}
		}
	}
}

// More is put in at once than there is room for: as many as there is room
// for are told true, and those are in it.
func TestSeveralPutIntoABoxThatGetsFull(t *testing.T) {
	const putters = 8
	for _, room := range []int{1, 3, 100, 1000} {
		b := made[thing](t, room)
		told := make([][]thing, putters)
		together(putters, func(who int) {
			for number := range room {
				if x := (thing{who, number}); b.Put(x) {
					told[who] = append(told[who], x)
				}
			}
		})
		if b.Len() != room || b.Put(thing{}) {
			t.Fatalf("Len %d of %d", b.Len(), room)
		}
		got := b.Drain(room + 1)
		checkOrder(t, got)
		all := slices.Concat(told...)
		for _, x := range got {
			if !slices.Contains(all, x) {
				t.Fatalf("%v was told false", x)
			}
		}
		if len(got) != room || len(all) != room {
			t.Fatalf("%d in it, %d told true, room for %d", len(got), len(all), room)
		}
	}
}

func TestSeveralTakeAndDrainTillItIsEmpty(t *testing.T) {
	const takers = 8
	for _, n := range []int{1, 3, 100, api.MaxRoom} {
		b := made[thing](t, api.MaxRoom)
		putAll(b, 0, n)
		got := make([][]thing, takers)
		together(takers, func(who int) {
			for {
				l := b.Drain(who)
				if who == 0 {
					if x, ok := b.Take(); ok {
						l = []thing{x}
					}
				}
				if len(l) == 0 {
					return
				}
				got[who] = append(got[who], l...)
			}
		})
		for _, l := range got {
			checkOrder(t, l)
		}
		checkWhole(t, slices.Concat(got...), 1, n)
		if x, ok := b.Take(); ok || x != (thing{}) || b.Len() != 0 {
			t.Fatalf("%v, %v, Len %d", x, ok, b.Len())
		}
	}
}

// Each has one thing at most in the box, and there is room for one of each:
// so it is never full when one puts, and never empty when one takes.
func TestNobodyIsRefusedWithoutNeed(t *testing.T) {
	const several = 6
	b := made[thing](t, several)
	var wrong atomic.Int64
	together(several, func(who int) {
		for number := range 20000 {
			if !b.Put(thing{who, number}) {
				wrong.Add(1)
			}
			if n := b.Len(); n < 1 || n > several {
				wrong.Add(1)
			}
			if _, ok := b.Take(); !ok {
				wrong.Add(1)
			}
		}
	})
	if wrong.Load() != 0 || b.Len() != 0 {
		t.Errorf("%d times, Len %d", wrong.Load(), b.Len())
	}
}

// beside does one thing once, while three others do theirs over and over.
func beside(others func(who int), one func()) {
	var over atomic.Bool
	together(4, func(who int) {
		if who == 0 {
			one()
			over.Store(true)
		}
		for !over.Load() {
			others(who)
		}
	})
}

// Who alone puts, and finds the box empty, has room, however many take.
func TestEmptyHasRoom(t *testing.T) {
	b := made[int](t, 1)
	beside(func(int) { b.Take() }, func() {
		for x := range 50000 {
			b.Put(x)
			if _, ok := b.Take(); !ok && !b.Put(x) {
				t.Errorf("step %d: neither anything in it nor room", x)
				return
			}
		}
	})
}

// Who alone takes, and finds the box full, finds something in it, however
// many put.
func TestFullHasSomething(t *testing.T) {
	b := made[int](t, 1)
	beside(func(who int) { b.Put(who) }, func() {
		for x := range 50000 {
			b.Take()
			if b.Put(-x) {
				continue
			}
			if _, ok := b.Take(); !ok {
				t.Errorf("step %d: neither room nor anything in it", x)
				return
			}
		}
	})
}

// Drain ends, though others put in as much as it takes, and more; and Len is
// never beyond the room.
func TestDrainEndsThoughOthersGoOn(t *testing.T) {
	for _, room := range []int{1, 5, 100} {
		b := made[int](t, room)
		beside(func(who int) { b.Put(who) }, func() {
			for range 300 {
				drained, n := len(b.Drain(math.MaxInt)), b.Len()
				if drained > room || n < 0 || n > room {
					t.Errorf("room %d: drained %d, Len %d", room, drained, n)
					return
				}
			}
		})
	}
}

func TestSeveralAskANilBox(t *testing.T) {
	together(4, func(int) { checkZero(t, nil) })
}
