package table

import (
	"maps"
	"math"
	"math/rand"
	"slices"
	"testing"

	"bailiff/api"
)

// The limit as the document writes it, so that a test doesn't take it from
// where the program does.
const topSlots = 64

// rooms are those that New must not refuse, but for most of those between.
var rooms = []int{1, 2, 3, 4, 7, 31, 32, 33, topSlots - 1, topSlots}

// four is a prefix of IPv4, six one of IPv6, whose Addr begins so.
func four(addr ...byte) api.Prefix { return prefix(false, addr) }
func six(addr ...byte) api.Prefix  { return prefix(true, addr) }

func prefix(v6 bool, addr []byte) api.Prefix {
	p := api.Prefix{V6: v6}
	copy(p.Addr[:], addr)
	return p
}

// who is the n-th prefix. Their order is another one than that of n.
func who(n int) api.Prefix { return prefix(n%3 == 1, []byte{byte(n * 7), 1, byte(n >> 8), byte(n)}) }

// text is p as a text; texts' own order is that of the prefixes.
func text(p api.Prefix) string {
	if p.V6 {
		return "6" + string(p.Addr[:])
	}
	return "4" + string(p.Addr[:])
}

// plain is a plain second way: whatever is known, by names alone, which are
// sorted when they are asked for.
type plain struct {
	room int
	has  map[string]int
	name map[string]api.Prefix
}

func (p *plain) put(x api.Prefix, v int) bool {
	s := text(x)
	if _, there := p.has[s]; !there && len(p.has) == p.room {
		return false
	}
	p.has[s], p.name[s] = v, x
	return true
}

func (p *plain) del(x api.Prefix) bool {
	s := text(x)
	_, there := p.has[s]
	delete(p.has, s)
	delete(p.name, s)
	return there
}

func (p *plain) all() []api.Prefix {
	var l []api.Prefix
	for _, s := range slices.Sorted(maps.Keys(p.has)) {
		l = append(l, p.name[s])
	}
	return l
}

// pair is a table of numbers, and a plain second one. Each step is done to
// both, and all that the table says of itself is held against the other behind
// it.
type pair struct {
	t     *testing.T
	table *Table[int]
	plain plain
	seen  []api.Prefix
	next  int
}

func newPair(t *testing.T, room int) *pair {
	t.Helper()
	p := &pair{t: t, table: made[int](t, room), seen: []api.Prefix{{}, {V6: true}}, next: 1}
	p.plain = plain{room, map[string]int{}, map[string]api.Prefix{}}
	p.check()
	return p
}

// made is a table that New must not refuse.
func made[V any](t *testing.T, room int) *Table[V] {
	t.Helper()
	x, e := New[V](room)
	if x == nil || e != api.OK {
		t.Fatalf("New(%d): %v, %v", room, x, e)
	}
	return x
}

// put lets x have a number that the table never saw, and that isn't 0.
func (p *pair) put(x api.Prefix) bool {
	p.t.Helper()
	p.next++
	return p.putNumber(x, p.next)
}

func (p *pair) putNumber(x api.Prefix, v int) bool {
	p.t.Helper()
	before, want := p.plain.all(), p.plain.put(x, v)
	if got := p.table.Put(x, v); got != want {
		p.t.Fatalf("Put(%v, %d) with %v of %d: %v", x, v, before, p.plain.room, got)
	}
	p.look(x)
	return want
}

// puts lets all of them have something, for each of whom there must be room.
func (p *pair) puts(l ...api.Prefix) {
	p.t.Helper()
	for _, x := range l {
		if !p.put(x) {
			p.t.Fatalf("no room for %v", x)
		}
	}
}

func (p *pair) del(x api.Prefix) bool {
	p.t.Helper()
	before, want := p.plain.all(), p.plain.del(x)
	if got := p.table.Del(x); got != want {
		p.t.Fatalf("Del(%v) with %v: %v", x, before, got)
	}
	p.look(x)
	return want
}

// look checks, and asks for x from now on.
func (p *pair) look(x api.Prefix) {
	p.t.Helper()
	if !slices.Contains(p.seen, x) {
		p.seen = append(p.seen, x)
	}
	p.check()
}

// check asks for everything twice, as to be asked must change nothing.
func (p *pair) check() {
	p.t.Helper()
	for range 2 {
		if n := p.table.Len(); n != len(p.plain.has) {
			p.t.Fatalf("Len: %d, not %d", n, len(p.plain.has))
		}
		p.is(p.plain.all()...)
		for _, x := range p.seen {
			want, there := p.plain.has[text(x)]
			p.has(x, want, there)
		}
	}
}

// is holds who is there against who ought to be.
func (p *pair) is(want ...api.Prefix) {
	p.t.Helper()
	if got := p.table.All(); !slices.Equal(got, want) {
		p.t.Fatalf("All: %v, not %v", got, want)
	}
}

// has holds what x has against what it ought to have.
func (p *pair) has(x api.Prefix, want int, there bool) {
	p.t.Helper()
	if got, ok := p.table.Get(x); got != want || ok != there {
		p.t.Fatalf("Get(%v): %d, %v; not %d, %v", x, got, ok, want, there)
	}
}

// full is a table in which as many are as there is room for.
func full(t *testing.T, room int) *pair {
	t.Helper()
	p := newPair(t, room)
	for k := range room {
		p.puts(who(k))
	}
	return p
}

// orders are all orders of a list.
func orders[E any](l []E) [][]E {
	if len(l) == 0 {
		return [][]E{{}}
	}
	var all [][]E
	for k := range l {
		rest := slices.Delete(slices.Clone(l), k, k+1)
		for _, order := range orders(rest) {
			all = append(all, append([]E{l[k]}, order...))
		}
	}
	return all
}

func TestNewOfNoSuchRoom(t *testing.T) {
	for _, room := range []int{math.MinInt, math.MinInt + 1, math.MinInt32, -1 << 16, -topSlots, -2, -1, 0,
		topSlots + 1, topSlots + 2, 2 * topSlots, 4096, 1 << 16, 1<<32 + 1, 1<<32 + topSlots, math.MaxInt32, math.MaxInt - 1, math.MaxInt} {
		if x, e := New[int](room); x != nil || e != api.ErrArg {
			t.Errorf("New(%d): %v, %v", room, x, e)
		}
		if x, e := New[[]string](room); x != nil || e != api.ErrArg {
			t.Errorf("New(%d) of lists: %v, %v", room, x, e)
		}
		if x, e := New[struct{}](room); x != nil || e != api.ErrArg {
			t.Errorf("New(%d) of nothing: %v, %v", room, x, e)
		}
	}
}

// Of each room: there is nobody at first, and there is room for just so many.
func TestNewOfEachRoom(t *testing.T) {
	for room := 1; room <= topSlots; room++ {
		x := made[int](t, room)
		if x.Len() != 0 || len(x.All()) != 0 {
			t.Fatalf("New(%d): %d, %v", room, x.Len(), x.All())
		}
		for k := range topSlots + 1 {
			if v, ok := x.Get(who(k)); v != 0 || ok || x.Del(who(k)) {
				t.Fatalf("New(%d): %v has %d, %v", room, who(k), v, ok)
			}
		}
		for k := range topSlots + 3 {
			if ok := x.Put(who(k), k+1); ok != (k < room) || x.Len() != min(k+1, room) {
				t.Fatalf("New(%d): Put of %d others: %v, %d", room, k, ok, x.Len())
			}
		}
	}
}

func TestTheChaptersExample(t *testing.T) {
	x := made[int](t, 1)
	a, b := four(1), four(2)
	if !x.Put(a, 1) || x.Put(b, 2) || !x.Put(a, 3) {
		t.Error("put")
	}
	if v, ok := x.Get(a); v != 3 || !ok {
		t.Errorf("Get(a): %d, %v", v, ok)
	}
	if v, ok := x.Get(b); v != 0 || ok {
		t.Errorf("Get(b): %d, %v", v, ok)
	}
	if l := x.All(); x.Len() != 1 || len(l) != 1 || l[0] != a {
		t.Errorf("%d, %v", x.Len(), l)
	}
}

// Wherever in the order the newcomer would stand.
func TestPutOfOneWhoIsNotThere(t *testing.T) {
	for _, room := range rooms {
		p := newPair(t, room)
		for k := range room {
			if !p.put(who(k)) {
				t.Fatalf("%d of %d: no room", k, room)
			}
		}
		for _, x := range []api.Prefix{{}, {V6: true}, who(room), who(room + 1), four(255, 255, 255), six(255, 255, 255, 255, 255, 255, 255)} {
			if _, there := p.plain.has[text(x)]; !there && p.put(x) {
				t.Fatalf("of %d: room for %v", room, x)
			}
		}
	}
}

func TestPutOfOneWhoIsThere(t *testing.T) {
	for _, room := range rooms {
		for _, free := range []int{0, 1, 2} {
			if free >= room {
				continue
			}
			p := newPair(t, room)
			for k := range room - free {
				p.puts(who(k))
			}
			for k := range room - free {
				// Another thing, the same one, zero, and again another one.
				p.puts(who(k))
				for _, v := range []int{p.next, p.next, 0, 0, p.next, -1, math.MinInt, math.MaxInt} {
					if !p.putNumber(who(k), v) {
						t.Fatalf("%d of %d", k, room)
					}
					p.has(who(k), v, true)
				}
				p.puts(who(k))
			}
			for k := range free {
				p.puts(who(room + k))
			}
			p.put(who(-1))
		}
	}
}

// Who is refused has nothing later on, when there is room for it.
func TestWhoIsRefusedIsNotKept(t *testing.T) {
	p := full(t, 3)
	x := six(9)
	if p.put(x) {
		t.Fatal("room")
	}
	p.has(x, 0, false)
	if !p.del(who(1)) || p.del(x) {
		t.Fatal("del")
	}
	p.has(x, 0, false)
	if p.table.Len() != 2 {
		t.Fatal(p.table.Len())
	}
	p.puts(x)
	p.has(x, p.next, true)
}

func TestGet(t *testing.T) {
	p := newPair(t, 3)
	a, b, c := four(5, 6, 7), six(5, 6, 7), four(5, 6, 8)
	p.has(a, 0, false)
	p.putNumber(a, 11)
	p.has(a, 11, true)
	p.has(b, 0, false)
	p.has(c, 0, false)
	p.putNumber(b, 12)
	p.putNumber(c, 0)
	p.has(a, 11, true)
	p.has(b, 12, true)
	p.has(c, 0, true)
	p.del(a)
	p.has(a, 0, false)
	p.has(b, 12, true)
	p.putNumber(a, 13)
	p.has(a, 13, true)
	p.putNumber(b, 14)
	p.has(b, 14, true)
	p.del(b)
	p.has(b, 0, false)
	p.has(a, 13, true)
	p.putNumber(b, 0)
	p.has(b, 0, true)
}

// The first one in order, the last one, and each between, of each number of
// them; then there is room for one more, wherever that one stands.
func TestDelOfEach(t *testing.T) {
	for _, room := range []int{1, 2, 3, 4, 5, 9, topSlots} {
		for k := range room {
			p := full(t, room)
			all := p.table.All()
			x := all[k]
			if !p.del(x) || p.del(x) {
				t.Fatalf("%d of %d", k, room)
			}
			p.is(slices.Delete(slices.Clone(all), k, k+1)...)
			if p.table.Len() != room-1 {
				t.Fatalf("%d of %d: Len %d", k, room, p.table.Len())
			}
			if k%2 == 0 {
				x = who(room + k)
			}
			if !p.put(x) || p.put(who(-1)) {
				t.Fatalf("%d of %d: room", k, room)
			}
		}
	}
}

func TestDelOfOneWhoIsNotThere(t *testing.T) {
	for _, room := range []int{1, 2, 3, topSlots} {
		for _, here := range []int{0, 1, room - 1, room} {
			p := newPair(t, room)
			for k := range here {
				p.puts(who(k))
			}
			for _, x := range []api.Prefix{{}, {V6: true}, who(here), four(255, 255, 255, 255, 255, 255, 255), six(255, 255, 255, 255, 255, 255, 255)} {
				if _, there := p.plain.has[text(x)]; !there && p.del(x) {
					t.Fatal(x)
				}
			}
		}
	}
}

// From either end, and in another order than the one in which they came.
func TestDelOfAll(t *testing.T) {
	for _, room := range []int{1, 2, 3, 4, 5, topSlots} {
		p := newPair(t, room)
		for step := range 3 {
			for k := range room {
				p.puts(who(k + step))
			}
			for p.table.Len() > 0 {
				all := p.table.All()
				p.del(all[[]int{0, len(all) - 1, len(all) / 2}[step]])
			}
			p.is()
		}
	}
}

// One table takes many more than it has room for, one after the other.
func TestManyComeAndGo(t *testing.T) {
	for _, room := range []int{1, 2, 5, topSlots} {
		x := made[int](t, room)
		for k := range 3000 {
			if !x.Put(prefix(k%2 == 0, []byte{byte(k), 3, byte(k >> 8)}), k) {
				t.Fatal(k)
			}
			old := k - room + 1
			if old < 0 {
				continue
			}
			y := prefix(old%2 == 0, []byte{byte(old), 3, byte(old >> 8)})
			if v, ok := x.Get(y); v != old || !ok || x.Len() != room || x.Put(four(9, 9, 9, 9), 1) || !x.Del(y) {
				t.Fatal(k, v, ok)
			}
		}
	}
}

// Nothing is kept of what was taken out, nor of what something else was put in
// the stead of.
func TestNothingIsKept(t *testing.T) {
	for del := range 4 {
		x := made[*int](t, 4)
		things := []*int{new(int), new(int), new(int), new(int), new(int)}
		for k := range 4 {
			x.Put(who(k), things[k])
		}
		x.Put(who(0), things[4])
		all := x.All()
		if !x.Del(all[del]) || !x.Del(all[(del+2)%4]) {
			t.Fatal(del)
		}
		kept := map[*int]int{}
		for _, y := range x.entries[:cap(x.entries)] {
			kept[y.thing]++
		}
		delete(kept, nil)
		for _, y := range x.All() {
			v, _ := x.Get(y)
			delete(kept, v)
		}
		if len(kept) != 0 {
			t.Errorf("%d: %d things", del, len(kept))
		}
	}
}

// Every line of steps that is so short.
func TestEveryShortLineOfSteps(t *testing.T) {
	few := []api.Prefix{four(0, 0, 1), four(1), six(0, 0, 1), six(0, 1)}
	steps := 2 * len(few)
	for room := 1; room <= 3; room++ {
		for line := range steps * steps * steps * steps * steps {
			p := newPair(t, room)
			for range 5 {
				x := few[line%len(few)]
				if line%steps < len(few) {
					p.put(x)
				} else {
					p.del(x)
				}
				line /= steps
			}
		}
	}
}

func TestDrawnSteps(t *testing.T) {
	for seed := range int64(200) {
		draw := rand.New(rand.NewSource(seed))
		room := 1 + draw.Intn(topSlots)
		if seed%4 == 0 {
			room = 1 + draw.Intn(4)
		}
		var pool []api.Prefix
		for range room + 1 + draw.Intn(room+5) {
			pool = append(pool, drawn(draw))
		}
		p := newPair(t, room)
		for range 300 {
			x := pool[draw.Intn(len(pool))]
			if draw.Intn(5) < 3 {
				p.put(x)
			} else {
				p.del(x)
			}
		}
	}
}

// drawn is a prefix that is like others in many bytes.
func drawn(draw *rand.Rand) api.Prefix {
	p := api.Prefix{V6: draw.Intn(2) == 0}
	for k := range p.Addr {
		if draw.Intn(2) == 0 {
			p.Addr[k] = []byte{0, 1, 127, 128, 254, 255}[draw.Intn(6)]
		}
	}
	return p
}

func TestTwoDontDisturbEachOther(t *testing.T) {
	a, b := full(t, 4), full(t, 4)
	a.del(who(0))
	b.check()
	b.puts(who(2))
	a.check()
	a.puts(six(77))
	a.puts(who(2))
	b.check()
	b.del(who(3))
	a.check()
	b.check()
}
