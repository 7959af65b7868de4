package turns

import (
	"math"
	"math/rand"
	"slices"
	"testing"

	"bailiff/api"
)

// same is heads that are all alike.
type same int

func (s same) Head(int) int { return int(s) }

// list is each class's head, from class 0 on.
type list []int

func (l list) Head(class int) int { return l[class] }

// asked is heads that keep in mind who was asked for.
type asked struct {
	heads Heads
	of    []int
}

func (a *asked) Head(class int) int {
	a.of = append(a.of, class)
	return a.heads.Head(class)
}

// pointed is heads that are found by a pointer, which may be nil.
type pointed struct{ head int }

func (p *pointed) Head(int) int { return p.head }

// left is what a class ought to have, and whether it ought to be fresh.
type left struct {
	bytes int64
	fresh bool
}

// pair is turns, and a plain second way to keep them: who is awake as a list,
// what they have by name. Each step is done to both, and all that the turns
// say of themselves is held against the other behind it.
type pair struct {
	t       *testing.T
	turns   *Turns
	classes int
	quantum int64
	line    []int
	have    map[int]left
}

func newPair(t *testing.T, classes int, quantum int64, awake ...int) *pair {
	t.Helper()
	x, e := New(classes, quantum)
	if x == nil || e != api.OK {
		t.Fatalf("New(%d, %d): %v, %v", classes, quantum, x, e)
	}
	p := &pair{t: t, turns: x, classes: classes, quantum: quantum, have: map[int]left{}}
	p.check()
	for _, class := range awake {
		must(t, p.wake(class))
	}
	return p
}

func (p *pair) there(class int) bool { return class >= 0 && class < p.classes }

func (p *pair) isAwake(class int) bool {
	_, ok := p.have[class]
	return ok
}

func (p *pair) wake(class int) bool {
	p.t.Helper()
	want := p.there(class) && !p.isAwake(class)
	if got := p.turns.Wake(class); got != want {
		p.t.Fatalf("Wake(%d) with %v awake: %v", class, p.line, got)
	}
	if want {
		p.line = append(p.line, class)
		p.have[class] = left{fresh: true}
	}
	p.check()
	return want
}

func (p *pair) sleep(class int) bool {
	p.t.Helper()
	want := p.isAwake(class)
	if got := p.turns.Sleep(class); got != want {
		p.t.Fatalf("Sleep(%d) with %v awake: %v", class, p.line, got)
	}
	p.drop(class)
	p.check()
	return want
}

func (p *pair) drop(class int) {
	delete(p.have, class)
	p.line = slices.DeleteFunc(p.line, func(c int) bool { return c == class })
}

// pick also asks who was asked for, and in which order.
func (p *pair) pick(h Heads) (int, bool) {
	p.t.Helper()
	want, got := &asked{heads: h}, &asked{heads: h}
	class, ok := p.turn(want)
	if c, o := p.turns.Pick(got); c != class || o != ok {
		p.t.Fatalf("Pick: %d, %v; not %d, %v", c, o, class, ok)
	}
	if !slices.Equal(want.of, got.of) {
		p.t.Fatalf("Pick asked for %v, not %v", got.of, want.of)
	}
	p.check()
	return class, ok
}

// turn is whose turn it ought to be.
func (p *pair) turn(h Heads) (int, bool) {
	for len(p.line) > 0 {
		class := p.line[0]
		has, head := p.have[class], h.Head(class)
		switch {
		case head < 1:
			p.drop(class)
			continue
		case head > 9216:
			head = 9216
		}
		if has.fresh {
			has.bytes += p.quantum
		}
		if int64(head) <= has.bytes {
			p.have[class] = left{bytes: has.bytes - int64(head)}
			return class, true
		}
		p.have[class] = left{bytes: has.bytes, fresh: true}
		p.line = append(p.line[1:], class)
	}
	return 0, false
}

// picks holds who is picked against who ought to be, one behind the other.
func (p *pair) picks(h Heads, want ...int) {
	p.t.Helper()
	for k, class := range want {
		if c, ok := p.pick(h); c != class || !ok {
			p.t.Fatalf("pick %d: %d, %v; not %d", k, c, ok, class)
		}
	}
}

// is holds who is awake against who ought to be, in order.
func (p *pair) is(want ...int) {
	p.t.Helper()
	if got := p.turns.Awake(); !slices.Equal(got, want) {
		p.t.Fatalf("awake: %v, not %v", got, want)
	}
}

// has holds the classes' deficits, from class 0 on, against what they ought
// to be.
func (p *pair) has(want ...int64) {
	p.t.Helper()
	for class, n := range want {
		if got := p.turns.Deficit(class); got != n {
			p.t.Fatalf("Deficit(%d): %d, not %d", class, got, n)
		}
	}
}

// check asks every class, and some that there aren't.
func (p *pair) check() {
	p.t.Helper()
	p.is(p.line...)
	for class := range p.classes {
		if got, want := p.turns.Deficit(class), p.have[class].bytes; got != want {
			p.t.Fatalf("Deficit(%d) with %v awake: %d, not %d", class, p.line, got, want)
		}
	}
	for _, class := range none(p.classes) {
		if got := p.turns.Deficit(class); got != 0 {
			p.t.Fatalf("Deficit(%d) of %d classes: %d", class, p.classes, got)
		}
	}
}

// none is classes that there aren't.
func none(classes int) []int {
	return []int{math.MinInt, math.MinInt32, -1, classes, classes + 1, 129, 1 << 32, math.MaxInt32, math.MaxInt}
}

// must ends the test unless each of the steps went as it ought to.
func must(t *testing.T, steps ...bool) {
	t.Helper()
	for i, ok := range steps {
		if !ok {
			t.Fatalf("step %d", i)
		}
	}
}

func TestNew(t *testing.T) {
	classes := []int{math.MinInt, -1, 0, 1, 2, 64, 128, 129, 130, 1 << 32, 1<<32 + 1, math.MaxInt}
	quanta := []int64{
		math.MinInt64, -1, 0, 1, 2, 9216, 1<<30 - 1, 1 << 30, 1<<30 + 1, 1 << 32, 1<<32 + 1, math.MaxInt64,
	}
	for _, c := range classes {
		for _, quantum := range quanta {
			x, e := New(c, quantum)
			right := c >= 1 && c <= 129 && quantum >= 1 && quantum <= 1<<30
			if right && (x == nil || e != api.OK) || !right && (x != nil || e != api.ErrArg) {
				t.Fatalf("New(%d, %d): %v, %v", c, quantum, x, e)
			}
		}
	}
}

func TestAllSleepAtFirst(t *testing.T) {
	for _, classes := range []int{1, 2, 64, 129} {
		p := newPair(t, classes, 10)
		p.is()
		for class := range classes {
			must(t, !p.sleep(class), p.turns.Deficit(class) == 0)
		}
		if c, ok := p.pick(same(1)); c != 0 || ok {
			t.Fatal(c, ok)
		}
	}
}

func TestAllAwakeAndAllAsleepAgain(t *testing.T) {
	for _, classes := range []int{1, 2, 3, 64, 129} {
		p := newPair(t, classes, 10)
		for class := range classes {
			must(t, p.wake(class), !p.wake(class))
		}
		for class := range classes {
			p.picks(same(10), class)
		}
		for class := classes - 1; class >= 0; class-- {
			must(t, p.sleep(class), !p.sleep(class))
		}
		p.is()
	}
}

func TestTurnsAreApart(t *testing.T) {
	a, b := newPair(t, 3, 10, 0, 1), newPair(t, 3, 10, 2, 1)
	a.picks(same(6), 0)
	b.check()
	b.picks(same(7), 2)
	a.check()
	must(t, a.sleep(1))
	b.check()
}

func TestWake(t *testing.T) {
	p := newPair(t, 4, 10)
	must(t, p.wake(2), p.wake(0), p.wake(3))
	p.is(2, 0, 3)
	must(t, !p.wake(0), !p.wake(2), !p.wake(3))
	p.is(2, 0, 3)
	must(t, p.wake(1))
	p.is(2, 0, 3, 1)
	p.has(0, 0, 0, 0)
}

// Who is awake already loses neither its place nor what it has.
func TestWakeOfWhoIsAwakeChangesNothing(t *testing.T) {
	p := newPair(t, 2, 10, 0, 1)
	p.picks(same(4), 0)
	must(t, !p.wake(0))
	p.is(0, 1)
	p.has(6, 0)
	p.picks(same(4), 0, 1)
	must(t, !p.wake(0), !p.wake(1))
	p.is(1, 0)
	p.has(2, 6)
	p.picks(same(4), 1, 0)
}

func TestSleep(t *testing.T) {
	p := newPair(t, 5, 10, 4, 2, 0, 3, 1)
	must(t, p.sleep(0))
	p.is(4, 2, 3, 1)
	must(t, !p.sleep(0), p.sleep(1))
	p.is(4, 2, 3)
	must(t, p.sleep(4))
	p.is(2, 3)
	must(t, p.wake(0), p.sleep(3))
	p.is(2, 0)
	must(t, p.sleep(2), p.sleep(0), !p.sleep(2))
	p.is()
}

// Each one of so many is let sleep, while each one of them is the first one.
func TestSleepAtEachPlace(t *testing.T) {
	for n := 1; n <= 6; n++ {
		for first := range n {
			for class := range n {
				p := newPair(t, n, 10)
				for c := range n {
					must(t, p.wake(c))
				}
				for range first {
					p.pick(same(6))
					p.pick(same(6))
				}
				must(t, p.sleep(class), p.wake(class))
				for range 3 * n {
					p.pick(same(6))
				}
			}
		}
	}
}

// Whoever sleeps loses what it had left, and is fresh when it wakes.
func TestSleepAndWakeAgain(t *testing.T) {
	p := newPair(t, 2, 10, 0, 1)
	p.picks(same(3), 0)
	p.has(7, 0)
	must(t, p.sleep(0))
	p.has(0, 0)
	must(t, p.wake(0))
	p.has(0, 0)
	p.is(1, 0)
	p.picks(same(10), 1, 0)
	p.has(0, 0)

	p = newPair(t, 2, 10, 0, 1)
	p.picks(list{25, 10}, 1)
	p.has(10, 0)
	must(t, p.sleep(0))
	p.has(0, 0)
	must(t, p.wake(0))
	p.has(0, 0)
	p.picks(list{25, 10}, 1, 1, 0)
	p.has(5, 0)
}

func TestWhoIsFirstSleepsWithinItsTurn(t *testing.T) {
	p := newPair(t, 3, 10, 2, 1, 0)
	p.picks(same(2), 2, 2)
	must(t, p.sleep(2))
	p.is(1, 0)
	p.picks(same(4), 1, 1, 0, 0, 1)
	p.has(2, 8, 0)
}

func TestClassesThatThereArent(t *testing.T) {
	for _, classes := range []int{1, 3, 129} {
		p := newPair(t, classes, 10, 0)
		p.picks(same(3), 0)
		for _, class := range none(classes) {
			must(t, !p.wake(class), !p.sleep(class), p.turns.Deficit(class) == 0)
		}
		p.is(0)
		p.picks(same(7), 0)
	}
}

func TestExample(t *testing.T) {
	x, _ := New(1, 10)
	must(t, x.Wake(0))
	for _, want := range []int64{4, 8} {
		if c, ok := x.Pick(same(6)); c != 0 || !ok || x.Deficit(0) != want {
			t.Fatal(c, ok, x.Deficit(0))
		}
	}
}

func TestNothingHeadsIt(t *testing.T) {
	for _, head := range []int{0, -1, -9217, math.MinInt} {
		p := newPair(t, 3, 10, 1, 0, 2)
		p.picks(same(6), 1)
		p.has(0, 4, 0)
		p.picks(list{4, head, 9}, 0)
		p.is(0, 2)
		p.has(6, 0, 0)
		must(t, p.wake(1))
		p.has(6, 0, 0)
		p.picks(list{head, 10, head}, 1)
		p.is(1)
		if c, ok := p.pick(same(head)); c != 0 || ok {
			t.Fatalf("heads of %d: %d, %v", head, c, ok)
		}
		p.is()
		p.has(0, 0, 0)
	}
}

// Whom nothing heads, sleeps, though it isn't fresh, or was turned away.
func TestNothingHeadsWhoHasSomethingLeft(t *testing.T) {
	p := newPair(t, 2, 10, 0, 1)
	p.picks(list{15, 10}, 1)
	p.has(10, 0)
	p.picks(list{0, 1}, 1)
	p.is(1)
	p.has(0, 9)
	must(t, p.wake(0))
	p.picks(list{10, 10}, 0)
	p.has(0, 9)
}

func TestLengthsOfHeads(t *testing.T) {
	for _, c := range []struct {
		head  int
		bytes int64
	}{
		{1, 1}, {2, 2}, {9215, 9215}, {9216, 9216},
		{9217, 9216}, {1 << 32, 9216}, {1<<32 + 1, 9216}, {math.MaxInt, 9216},
	} {
		for _, quantum := range []int64{9216, 9217, 20000, 1 << 30} {
			p := newPair(t, 1, quantum, 0)
			p.picks(same(c.head), 0)
			p.has(quantum - c.bytes)
		}
		p := newPair(t, 1, c.bytes, 0)
		p.picks(same(c.head), 0, 0, 0)
		p.has(0)
		if c.bytes > 1 {
			p = newPair(t, 1, c.bytes-1, 0)
			p.picks(same(c.head), 0)
			p.has(c.bytes - 2)
		}
	}
}

// A head that is just as long as what is left goes; one that is a byte longer
// doesn't.
func TestHeadsJustAtWhatIsLeft(t *testing.T) {
	for quantum := int64(1); quantum <= 12; quantum++ {
		for first := int64(1); first <= quantum; first++ {
			leaves := int(quantum - first)
			p := newPair(t, 2, quantum, 0, 1)
			p.picks(list{int(first), 1}, 0)
			if leaves > 0 {
				p.picks(list{leaves, 1}, 0)
				p.has(0, 0)
			}
			p = newPair(t, 2, quantum, 0, 1)
			p.picks(list{int(first), 1}, 0)
			p.picks(list{leaves + 1, 1}, 1)
			p.is(1, 0)
			p.has(int64(leaves), quantum-1)
		}
	}
}

func TestSmallestQuantumBesideTheLongestHead(t *testing.T) {
	p := newPair(t, 2, 1, 0, 1)
	p.picks(same(9216), 0)
	p.has(0, 9215)
	p.is(0, 1)
	p.picks(same(9216), 1)
	p.has(0, 0)
	p.is(1, 0)
	p.picks(list{9216, 1}, 1, 1, 1)
	p.has(3, 0)

	p = newPair(t, 1, 1, 0)
	p.picks(same(9216), 0)
	p.has(0)
	p.picks(same(math.MaxInt), 0)
	p.has(0)
}

func TestGreatestQuantum(t *testing.T) {
	p := newPair(t, 2, 1<<30, 1, 0)
	for k := range int64(1000) {
		p.picks(same(9216), 1)
		p.has(0, 1<<30-9216*(k+1))
	}
	p.is(1, 0)
}

func TestEachClassAwakeWithTheSmallestQuantum(t *testing.T) {
	x, _ := New(129, 1)
	for class := range 129 {
		must(t, x.Wake(128-class))
	}
	for class := range 129 {
		if c, ok := x.Pick(same(9216)); c != 128-class || !ok {
			t.Fatal(c, ok)
		}
	}
	for class := range 129 {
		must(t, x.Deficit(class) == 0)
	}
}

// Whose turn it is stays first, and isn't given more, till what heads it is
// longer than what it has left; then it is the last one.
func TestWhoseTurnItIs(t *testing.T) {
	h := list{3, 5, 10, 20}
	p := newPair(t, 4, 10, 1, 0, 3, 2)
	for _, want := range []struct {
		class int
		order []int
		has   []int64
	}{
		{1, []int{1, 0, 3, 2}, []int64{0, 5, 0, 0}},
		{1, []int{1, 0, 3, 2}, []int64{0, 0, 0, 0}},
		{0, []int{0, 3, 2, 1}, []int64{7, 0, 0, 0}},
		{0, []int{0, 3, 2, 1}, []int64{4, 0, 0, 0}},
		{0, []int{0, 3, 2, 1}, []int64{1, 0, 0, 0}},
		{2, []int{2, 1, 0, 3}, []int64{1, 0, 0, 10}},
		{1, []int{1, 0, 3, 2}, []int64{1, 5, 0, 10}},
		{1, []int{1, 0, 3, 2}, []int64{1, 0, 0, 10}},
		{0, []int{0, 3, 2, 1}, []int64{8, 0, 0, 10}},
		{0, []int{0, 3, 2, 1}, []int64{5, 0, 0, 10}},
		{0, []int{0, 3, 2, 1}, []int64{2, 0, 0, 10}},
		{3, []int{3, 2, 1, 0}, []int64{2, 0, 0, 0}},
		{2, []int{2, 1, 0, 3}, []int64{2, 0, 0, 0}},
	} {
		p.picks(h, want.class)
		p.is(want.order...)
		p.has(want.has...)
	}
}

func TestWhoWakesWithinAnothersTurn(t *testing.T) {
	p := newPair(t, 3, 10, 0)
	p.picks(same(4), 0)
	must(t, p.wake(2), p.wake(1))
	p.is(0, 2, 1)
	p.picks(same(4), 0, 2, 2, 1, 1, 0)
	p.is(0, 2, 1)
}

// Who is looked at, and isn't on turn, keeps what it was given for the next
// time.
func TestWhatIsLeftStaysTillTheNextTurn(t *testing.T) {
	p := newPair(t, 3, 10, 0, 1, 2)
	h := list{25, 35, 10}
	p.picks(h, 2)
	p.has(10, 10, 0)
	p.picks(h, 2)
	p.has(20, 20, 0)
	p.is(2, 0, 1)
	p.picks(h, 0)
	p.has(5, 20, 0)
	p.is(0, 1, 2)
	p.picks(h, 2)
	p.has(5, 30, 0)
	p.picks(h, 1)
	p.has(15, 5, 0)
	p.is(1, 2, 0)
}

func TestNobodyAwake(t *testing.T) {
	p := newPair(t, 2, 10, 0, 1)
	must(t, p.sleep(0), p.sleep(1))
	h := &asked{heads: same(5)}
	if c, ok := p.turns.Pick(h); c != 0 || ok || len(h.of) != 0 {
		t.Fatal(c, ok, h.of)
	}
	p.check()
	must(t, p.wake(1))
	p.picks(same(5), 1)
}

// untouched picks by heads that can't be asked, and holds against it that
// nothing is done.
func (p *pair) untouched(h Heads) {
	p.t.Helper()
	before := *p.turns
	if c, ok := p.turns.Pick(h); c != 0 || ok {
		p.t.Fatalf("Pick: %d, %v", c, ok)
	}
	if *p.turns != before {
		p.t.Fatalf("Pick left %v of %v", *p.turns, before)
	}
	p.check()
}

func TestNilHeads(t *testing.T) {
	p := newPair(t, 3, 10)
	p.untouched(nil)
	must(t, p.wake(1), p.wake(2), p.wake(0))
	p.untouched(nil)
	p.picks(same(6), 1)
	p.untouched(nil)
	p.picks(same(6), 2)
	p.untouched(nil)
	p.picks(same(4), 2, 0)
}

// Heads that panic are as good as none, whoever is asked for first.
func TestHeadsThatPanic(t *testing.T) {
	p := newPair(t, 4, 10, 0, 1, 2, 3)
	var nowhere *pointed
	p.untouched(nowhere)
	p.untouched(list{})
	p.untouched(list{15})
	p.untouched(list{0, 15})
	p.untouched(list{15, 0, -1})
	p.picks(&pointed{6}, 0, 1, 2)
	p.untouched(list{1, 1})
	p.untouched(nowhere)
	p.picks(same(4), 2, 3)
}

func TestHeadsAreAskedAnew(t *testing.T) {
	p := newPair(t, 2, 10, 0, 1)
	h := list{6, 6}
	p.picks(h, 0)
	h[0] = 4
	p.picks(h, 0)
	h[0], h[1] = 10, 0
	p.picks(h, 0)
	p.is(0)
}

func TestAwakeIsNewMemory(t *testing.T) {
	draw := rand.New(rand.NewSource(3))
	p := newPair(t, 129, 10, 5, 3, 4)
	for _, more := range []int{0, 1, 200} {
		for range more {
			p.wake(draw.Intn(129))
		}
		a, b := p.turns.Awake(), p.turns.Awake()
		want := slices.Clone(b)
		all := a[:cap(a)]
		for k := range all {
			all[k] = 77
		}
		p.check()
		if !slices.Equal(b, want) {
			t.Fatalf("%v, not %v", b, want)
		}
		must(t, p.sleep(b[1]), slices.Equal(b, want))
		p.pick(same(6))
		must(t, slices.Equal(b, want))
	}
}

func TestAwakeOfNobodyHasNoRoomOfIts(t *testing.T) {
	p := newPair(t, 3, 10)
	_ = append(p.turns.Awake(), 7, 7, 7)
	must(t, p.wake(2), p.wake(0))
	p.is(2, 0)
	must(t, p.sleep(2), p.sleep(0))
	l := append(p.turns.Awake(), 7, 7)
	must(t, p.wake(1), slices.Equal(l, []int{7, 7}))
	p.is(1)
}

func TestEverySequenceOfFewSteps(t *testing.T) {
	steps := []func(*pair){
		func(p *pair) { p.wake(0) },
		func(p *pair) { p.wake(1) },
		func(p *pair) { p.sleep(0) },
		func(p *pair) { p.pick(list{2, 3}) },
		func(p *pair) { p.pick(list{7, 1}) },
		func(p *pair) { p.pick(list{0, 5}) },
	}
	const depth = 6
	all := 1
	for range depth {
		all *= len(steps)
	}
	for s := range all {
		p := newPair(t, 2, 3)
		for range depth {
			steps[s%len(steps)](p)
			s /= len(steps)
		}
	}
}

func TestDrawnSteps(t *testing.T) {
	draw := rand.New(rand.NewSource(15))
	for range 300 {
		classes := 1 + draw.Intn(8)
		quantum := []int64{1, 3, 100, 9216, 1 << 30}[draw.Intn(5)]
		longest := min(int(quantum)*4, 10000)
		p := newPair(t, classes, quantum)
		h := make(list, classes)
		for range 300 {
			for k := range h {
				h[k] = draw.Intn(longest+20) - 5
			}
			class := draw.Intn(classes+2) - 1
			switch draw.Intn(10) {
			case 0, 1, 2:
				p.wake(class)
			case 3:
				p.sleep(class)
			default:
				p.pick(h)
			}
		}
	}
}

// given is what each class was given, and for each two that stay awake how
// far the one has been ahead of the other, at least and at most. What they are
// given from wherever to wherever differs by no more than these two do.
type given struct {
	bytes       []int64
	least, most [][]int64
}

func newGiven(classes int) *given {
	g := &given{bytes: make([]int64, classes)}
	for range classes {
		g.least = append(g.least, make([]int64, classes))
		g.most = append(g.most, make([]int64, classes))
	}
	return g
}

func (g *given) add(class int, n int64) {
	g.bytes[class] += n
	for other := range g.bytes {
		ahead := g.bytes[class] - g.bytes[other]
		g.least[class][other] = min(g.least[class][other], ahead)
		g.most[class][other] = max(g.most[class][other], ahead)
		g.least[other][class] = min(g.least[other][class], -ahead)
		g.most[other][class] = max(g.most[other][class], -ahead)
	}
}

// differs is by how much what any two of them were given differs at most.
func (g *given) differs() int64 {
	worst := int64(0)
	for a := range g.bytes {
		for b := range g.bytes {
			worst = max(worst, g.most[a][b]-g.least[a][b])
		}
	}
	return worst
}

// fair has the first classes stay awake, and the others come and go, while
// what heads each of them is as lengths tells, for some four rounds. It answers
// by how much what those that stay were given differs, and what the longest
// head was.
func fair(t *testing.T, stay, others int, quantum int64, draw *rand.Rand, lengths func(class int) int) (int64, int64) {
	x, e := New(stay+others, quantum)
	must(t, x != nil, e == api.OK)
	h, g, longest := make(list, stay+others), newGiven(stay), 0
	for class := range h {
		h[class] = lengths(class)
	}
	for _, class := range draw.Perm(stay) {
		must(t, x.Wake(class))
	}
	for all := 4 * int64(stay+others) * (quantum + api.MaxFrame); all > 0; {
		if others > 0 {
			class := stay + draw.Intn(others)
			if draw.Intn(4) == 0 && !x.Wake(class) {
				x.Sleep(class)
			}
		}
		for _, head := range h[:stay] {
			longest = max(longest, min(head, api.MaxFrame))
		}
		c, ok := x.Pick(h)
		if !ok {
			t.Fatal("nobody's turn")
		}
		n := int64(min(h[c], api.MaxFrame))
		if c < stay {
			g.add(c, n)
		}
		h[c], all = lengths(c), all-n
	}
	for class := range stay {
		must(t, !x.Wake(class), g.bytes[class] > 0)
	}
	return g.differs(), int64(longest)
}

func TestWhoStaysAwakeIsGivenAlike(t *testing.T) {
	draw := rand.New(rand.NewSource(7))
	ways := []func(class int) int{
		func(int) int { return 9216 },
		func(int) int { return math.MaxInt },
		func(class int) int { return 1 + 9215*(class%2) },
		func(class int) int { return 64 << (class % 8) },
		func(class int) int { return 4608 + class%2 },
		func(int) int { return 1 + draw.Intn(9216) },
		func(int) int { return 9000 + draw.Intn(400) },
		func(int) int { return 1 + 9215*draw.Intn(2) },
		func(class int) int { return 1 + draw.Intn(1+(class*1111)%9216) },
	}
	for _, quantum := range []int64{9216, 9217, 10000, 18432, 30000, 1, 1000} {
		for _, stay := range []int{2, 5} {
			for _, others := range []int{0, 3} {
				for k, lengths := range ways {
					differs, longest := fair(t, stay, others, quantum, draw, lengths)
					if differs > quantum+2*longest {
						t.Fatalf("quantum %d, %d stay beside %d, way %d: %d apart", quantum, stay, others, k, differs)
					}
				}
			}
		}
	}
}

// A quantum that lasts for long is given whole, but for what no head fits in.
func TestAlikeByTheGreatestQuantum(t *testing.T) {
	draw := rand.New(rand.NewSource(9))
	lengths := func(class int) int { return 9216 - 200*class }
	differs, longest := fair(t, 3, 0, api.MaxBytes, draw, lengths)
	if differs < api.MaxBytes-longest || differs > api.MaxBytes+2*longest {
		t.Fatalf("%d apart", differs)
	}
}

// checkZero asks all there is of turns that can't have any class.
func checkZero(t *testing.T, x *Turns) {
	t.Helper()
	for range 2 {
		for _, class := range append(none(1), 0, 1, 128) {
			if x.Wake(class) || x.Sleep(class) || x.Deficit(class) != 0 {
				t.Fatalf("class %d", class)
			}
		}
		for _, h := range []Heads{nil, same(0), same(1), same(math.MaxInt), list{}, (*pointed)(nil)} {
			if c, ok := x.Pick(h); c != 0 || ok {
				t.Fatalf("Pick by %v: %d, %v", h, c, ok)
			}
		}
		if l := x.Awake(); len(l) != 0 {
			t.Fatalf("Awake: %v", l)
		}
	}
}

func TestNilTurns(t *testing.T) { checkZero(t, nil) }

func TestTurnsMadeByHandDontPanic(t *testing.T) { checkZero(t, &Turns{}) }
