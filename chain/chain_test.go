package chain

import (
	"math"
	"math/rand"
	"slices"
	"testing"

	"bailiff/api"
)

// pair is chains, and which places each of their lines ought to have. Each
// step is done to both, and all that the chains say of themselves is held
// against the other behind it.
type pair struct {
	t      *testing.T
	chains *Chains
	places int
	want   [][]int
}

func newPair(t *testing.T, lines, places int) *pair {
	t.Helper()
	return &pair{t: t, chains: made(t, lines, places), places: places, want: make([][]int, lines)}
}

// made is chains that New must not refuse.
func made(t *testing.T, lines, places int) *Chains {
	t.Helper()
	c, e := New(lines, places)
	if c == nil || e != api.OK {
		t.Fatalf("New(%d, %d): %v, %v", lines, places, c, e)
	}
	return c
}

// line is the places that a line ought to have; none, if there is no such
// line.
func (p *pair) line(line int) []int {
	if line < 0 || line >= len(p.want) {
		return nil
	}
	return p.want[line]
}

// of is the line in which a place ought to be.
func (p *pair) of(place int) (int, bool) {
	for line, places := range p.want {
		if slices.Contains(places, place) {
			return line, true
		}
	}
	return 0, false
}

func (p *pair) push(line, place int) {
	p.t.Helper()
	_, taken := p.of(place)
	want := line >= 0 && line < len(p.want) && place >= 0 && place < p.places && !taken
	if ok := p.chains.Push(line, place); ok != want {
		p.t.Fatalf("Push(%d, %d) with %v of %d places: %v", line, place, p.want, p.places, ok)
	}
	if want {
		p.want[line] = append(p.want[line], place)
	}
	p.check()
}

func (p *pair) pop(line int) {
	p.t.Helper()
	place, ok := p.chains.Pop(line)
	p.gone("Pop", line, 0, place, ok)
}

func (p *pair) cut(line, k int) {
	p.t.Helper()
	place, ok := p.chains.Cut(line, k)
	p.gone("Cut", line, k, place, ok)
}

// gone holds what a call answered against the k-th place of a line, which
// has left it then.
func (p *pair) gone(call string, line, k, place int, ok bool) {
	p.t.Helper()
	places := p.line(line)
	want, there := 0, k >= 0 && k < len(places)
	if there {
		want = places[k]
	}
	if place != want || ok != there {
		p.t.Fatalf("%s of line %d, %d, with %v: %d, %v", call, line, k, p.want, place, ok)
	}
	if there {
		p.want[line] = slices.Delete(places, k, k+1)
	}
	p.check()
}

func (p *pair) at(line, k int) {
	p.t.Helper()
	places := p.line(line)
	want, there := 0, k >= 0 && k < len(places)
	if there {
		want = places[k]
	}
	if place, ok := p.chains.At(line, k); place != want || ok != there {
		p.t.Fatalf("At(%d, %d) with %v: %d, %v", line, k, p.want, place, ok)
	}
}

// check looks at all the lines and places, and just beyond both ends of
// them.
func (p *pair) check() {
	p.t.Helper()
	for line := -1; line <= len(p.want)+1; line++ {
		n := len(p.line(line))
		if got := p.chains.Len(line); got != n {
			p.t.Fatalf("Len(%d) with %v: %d", line, p.want, got)
		}
		for k := -1; k <= n+1; k++ {
			p.at(line, k)
		}
	}
	for place := -1; place <= p.places+len(p.want); place++ {
		p.in(place)
	}
}

func (p *pair) in(place int) {
	p.t.Helper()
	want, there := p.of(place)
	if line, ok := p.chains.Line(place); line != want || ok != there {
		p.t.Fatalf("Line(%d) with %v: %d, %v", place, p.want, line, ok)
	}
}

// fill puts all places that are in no line into one, the lowest first.
func (p *pair) fill(line int) {
	p.t.Helper()
	for place := range p.places {
		if _, taken := p.of(place); !taken {
			p.push(line, place)
		}
	}
}

// clear pops all lines till they are empty, and once more.
func (p *pair) clear() {
	p.t.Helper()
	for line := range p.want {
		for len(p.want[line]) > 0 {
			p.pop(line)
		}
		p.pop(line)
	}
}

// outside are numbers of which there is none, where there are n, from 0 on.
func outside(n int) []int {
	return []int{n, n + 1, n + api.MaxRoom, 1 << 32, 1 << 40, math.MaxInt, -1, -2, -n - 1, -api.MaxRoom, -1 << 32, -1 << 40, math.MinInt}
}

// refused does all that must be refused, whatever the lines have.
func (p *pair) refused() {
	p.t.Helper()
	for _, line := range outside(len(p.want)) {
		for place := range p.places {
			p.push(line, place)
		}
		p.pop(line)
		for _, k := range []int{0, 1, -1, math.MaxInt, math.MinInt} {
			p.cut(line, k)
			p.at(line, k)
		}
		if n := p.chains.Len(line); n != 0 {
			p.t.Fatalf("Len(%d): %d", line, n)
		}
	}
	for _, place := range outside(p.places) {
		for line := range p.want {
			p.push(line, place)
		}
		p.push(-1, place)
		p.push(math.MaxInt, place)
		p.in(place)
	}
	for line, places := range p.want {
		for _, k := range outside(len(places)) {
			p.cut(line, k)
			p.at(line, k)
		}
		for other := range p.want {
			for _, place := range places {
				p.push(other, place)
			}
		}
	}
}

func TestNewRefusesWhatIsOutOfBounds(t *testing.T) {
	const lines = 2*api.MaxBuckets + 1
	wrongLines := []int{0, -1, -lines, math.MinInt, lines + 1, 2 * lines, 1 << 32, 1<<32 + 1, math.MaxInt}
	wrongPlaces := []int{0, -1, -api.MaxRoom, math.MinInt, api.MaxRoom + 1, 2 * api.MaxRoom, 1 << 32, 1<<32 + 1, math.MaxInt}
	refuse := func(lines, places int) {
		t.Helper()
		if c, e := New(lines, places); c != nil || e != api.ErrArg {
			t.Errorf("New(%d, %d): %v, %v", lines, places, c, e)
		}
	}
	for _, n := range wrongLines {
		for _, m := range append([]int{1, 2, api.MaxRoom}, wrongPlaces...) {
			refuse(n, m)
		}
	}
	for _, m := range wrongPlaces {
		for _, n := range []int{1, 2, lines} {
			refuse(n, m)
		}
	}
}

func TestNewHasAllLinesEmpty(t *testing.T) {
	for _, n := range [][2]int{{1, 1}, {1, 5}, {5, 1}, {3, 4}, {2*api.MaxBuckets + 1, 2}} {
		p := newPair(t, n[0], n[1])
		p.check()
		for line := range n[0] {
			p.pop(line)
			p.cut(line, 0)
			p.cut(line, 1)
			p.cut(line, -1)
		}
		p.refused()
		p.fill(n[0] - 1)
		p.clear()
	}
}

func TestTheChaptersExample(t *testing.T) {
	c := made(t, 1, 6)
	if !c.Push(0, 5) || !c.Push(0, 3) {
		t.Error("Push")
	}
	if place, ok := c.Cut(0, 0); place != 5 || !ok {
		t.Errorf("Cut(0, 0): %d, %v", place, ok)
	}
	if place, ok := c.Pop(0); place != 3 || !ok {
		t.Errorf("Pop(0): %d, %v", place, ok)
	}
	if place, ok := c.Pop(0); place != 0 || ok {
		t.Errorf("Pop(0) of none: %d, %v", place, ok)
	}
}

func TestOneLine(t *testing.T) {
	p := newPair(t, 1, 4)
	for _, order := range [][]int{{0, 1, 2, 3}, {3, 2, 1, 0}, {2, 0, 3, 1}} {
		for _, place := range order {
			p.push(0, place)
			p.push(0, place)
			p.push(1, place)
		}
		p.refused()
		p.clear()
	}
}

func TestOnePlace(t *testing.T) {
	p := newPair(t, 3, 1)
	for _, line := range []int{0, 1, 2, 2, 0, 0, 1} {
		p.push(line, 0)
		for other := range 3 {
			p.push(other, 0)
			p.cut(other, 1)
			p.cut(other, -1)
		}
		p.refused()
		for other := range 3 {
			if other != line {
				p.pop(other)
				p.cut(other, 0)
			}
		}
		p.cut(line, 0)
		p.cut(line, 0)
		p.push(line, 0)
		p.pop(line)
		p.pop(line)
	}
}

// A place's number is also a line's: that is no reason to take the one for
// the other.
func TestOneLineAndOnePlace(t *testing.T) {
	p := newPair(t, 1, 1)
	for range 3 {
		p.push(0, 0)
		p.push(0, 1)
		p.refused()
		p.pop(0)
		p.refused()
	}
}

func TestTheMostLines(t *testing.T) {
	const lines = 2*api.MaxBuckets + 1
	c := made(t, lines, 2*lines)
	for place := range 2 * lines {
		if !c.Push(place%lines, place) || c.Push((place+1)%lines, place) {
			t.Fatalf("Push of %d", place)
		}
	}
	for _, line := range outside(lines) {
		if c.Push(line, 0) || c.Len(line) != 0 {
			t.Fatalf("line %d", line)
		}
		if place, ok := c.Pop(line); place != 0 || ok {
			t.Fatalf("Pop(%d): %d, %v", line, place, ok)
		}
	}
	for line := range lines {
		last, _ := c.At(line, 1)
		if in, ok := c.Line(line + lines); last != line+lines || in != line || !ok || c.Len(line) != 2 {
			t.Fatalf("line %d: last %d, Line %d, %v, Len %d", line, last, in, ok, c.Len(line))
		}
		if place, ok := c.Pop(line); place != line || !ok || c.Len(line) != 1 {
			t.Fatalf("Pop(%d): %d, %v", line, place, ok)
		}
	}
	for line := range lines {
		if place, ok := c.Cut(line, 0); place != line+lines || !ok || c.Len(line) != 0 {
			t.Fatalf("Cut(%d, 0): %d, %v", line, place, ok)
		}
	}
}

// All of the most places are in one line, and then in another one, and then
// in the last one.
func TestTheMostPlaces(t *testing.T) {
	const last = 2 * api.MaxBuckets
	c := made(t, last+1, api.MaxRoom)
	for _, line := range []int{0, 1, last} {
		for place := api.MaxRoom - 1; place >= 0; place-- {
			if !c.Push(line, place) {
				t.Fatalf("Push(%d, %d)", line, place)
			}
		}
		for _, place := range append(outside(api.MaxRoom), 0, api.MaxRoom-1) {
			if c.Push(0, place) || c.Push(line, place) {
				t.Fatalf("Push of %d", place)
			}
		}
		if n := c.Len(line); n != api.MaxRoom {
			t.Fatalf("Len(%d): %d", line, n)
		}
		for _, k := range []int{0, 1, 2000, api.MaxRoom - 2, api.MaxRoom - 1} {
			if place, ok := c.At(line, k); place != api.MaxRoom-1-k || !ok {
				t.Fatalf("At(%d, %d): %d, %v", line, k, place, ok)
			}
			if in, ok := c.Line(k); in != line || !ok {
				t.Fatalf("Line(%d): %d, %v", k, in, ok)
			}
		}
		if place, ok := c.Cut(line, api.MaxRoom-1); place != 0 || !ok {
			t.Fatalf("Cut of the last one: %d, %v", place, ok)
		}
		for want := api.MaxRoom - 1; want > 0; want-- {
			if place, ok := c.Pop(line); place != want || !ok || c.Len(line) != want-1 {
				t.Fatalf("Pop(%d): %d, %v, not %d", line, place, ok, want)
			}
		}
		if place, ok := c.Pop(line); place != 0 || ok {
			t.Fatalf("Pop(%d) of none: %d, %v", line, place, ok)
		}
	}
}

// Whichever place is cut out of whatever line: the others stay as they are,
// and it comes behind them, or behind those of another line, if it is pushed
// again.
func TestCutAndPushAgain(t *testing.T) {
	for places := 1; places <= 6; places++ {
		for k := range places {
			for again := range 3 {
				p := newPair(t, 3, places+2)
				for place := range places {
					p.push(1, place)
				}
				p.push(2, places)
				cut := p.want[1][k]
				p.cut(1, k)
				p.push(again, cut)
				p.push(again, cut)
				p.push(1, places+1)
				p.refused()
				p.clear()
				p.fill(1)
			}
		}
	}
}

// Whatever two places are cut, in whatever order: what is left keeps its
// order, and takes in what comes behind.
func TestTwoAreCut(t *testing.T) {
	for places := 2; places <= 5; places++ {
		for k := range places {
			for j := range places {
				p := newPair(t, 2, places)
				p.fill(0)
				p.cut(0, k)
				p.cut(0, j)
				p.fill(1)
				p.fill(0)
				p.clear()
				p.fill(0)
				p.cut(0, k)
				p.cut(0, j)
				p.fill(0)
			}
		}
	}
}

// moved is what has gone from one line's k-th place to another line's end.
func (p *pair) moved(from, k, to int) {
	p.t.Helper()
	place := p.want[from][k]
	p.cut(from, k)
	p.push(to, place)
}

func TestALineGoesOverToAnother(t *testing.T) {
	p := newPair(t, 3, 5)
	p.fill(0)
	for range 5 {
		p.moved(0, 0, 2)
	}
	if !slices.Equal(p.want[2], []int{0, 1, 2, 3, 4}) {
		t.Fatal(p.want)
	}
	for k := 4; k >= 0; k-- {
		p.moved(2, k, 1)
	}
	if !slices.Equal(p.want[1], []int{4, 3, 2, 1, 0}) {
		t.Fatal(p.want)
	}
	for range 5 {
		p.moved(1, 0, 1)
	}
	p.clear()
}

func TestWhatIsRefusedChangesNothing(t *testing.T) {
	for _, want := range [][][]int{{{}, {}}, {{3}, {}}, {{}, {0, 2}}, {{1, 3}, {0}}, {{3, 1, 0, 2}, {}}, {{}, {0, 1, 2, 3}}} {
		p := newPair(t, 2, 4)
		p.fill(0)
		p.clear()
		for line, places := range want {
			for _, place := range places {
				p.push(line, place)
			}
		}
		p.refused()
		p.refused()
		for line := range want {
			if !slices.Equal(p.want[line], want[line]) {
				t.Fatalf("%v, not %v", p.want, want)
			}
		}
		p.fill(1)
		p.clear()
	}
}

func TestLookingChangesNothing(t *testing.T) {
	p := newPair(t, 2, 4)
	p.push(0, 2)
	p.push(1, 0)
	p.push(0, 3)
	for range 10 {
		p.check()
	}
	p.fill(0)
	p.clear()
}

func TestEverySequenceOfFewSteps(t *testing.T) {
	steps := []func(*pair){
		func(p *pair) { p.push(0, 0) },
		func(p *pair) { p.push(0, 1) },
		func(p *pair) { p.push(0, 2) },
		func(p *pair) { p.push(1, 1) },
		func(p *pair) { p.push(1, 2) },
		func(p *pair) { p.pop(0) },
		func(p *pair) { p.pop(1) },
		func(p *pair) { p.cut(0, 1) },
		func(p *pair) { p.cut(1, 1) },
	}
	const depth = 5
	all := 1
	for range depth {
		all *= len(steps)
	}
	for s := range all {
		p := newPair(t, 2, 3)
		for range depth {
			steps[s%len(steps)](p)
			s /= len(steps)
		}
	}
}

func TestLongMixedRun(t *testing.T) {
	for _, n := range [][2]int{{1, 1}, {1, 7}, {7, 1}, {2, 5}, {3, 20}, {9, 9}} {
		draw := rand.New(rand.NewSource(int64(n[0]*100 + n[1])))
		p := newPair(t, n[0], n[1])
		for range 4000 {
			line := draw.Intn(n[0]+2) - 1
			switch draw.Intn(5) {
			case 0, 1, 2:
				p.push(line, draw.Intn(n[1]+2)-1)
			case 3:
				p.pop(line)
			case 4:
				p.cut(line, draw.Intn(n[1]+2)-1)
			}
		}
		p.clear()
	}
}

func TestChainsAreApart(t *testing.T) {
	p, q := newPair(t, 2, 3), newPair(t, 2, 3)
	p.fill(0)
	q.check()
	q.fill(1)
	p.cut(0, 1)
	q.check()
	q.clear()
	p.check()
}

// The places are made once: no step makes more.
func TestNoStepMakesMemory(t *testing.T) {
	c := made(t, 3, 50)
	pieces := testing.AllocsPerRun(10, func() {
		for place := range 50 {
			c.Push(place%3, place)
		}
		for range 20 {
			c.Cut(1, 3)
			c.Pop(0)
			c.Pop(2)
			c.At(1, 0)
		}
		for c.Len(1) > 0 {
			c.Pop(1)
		}
	})
	if pieces != 0 {
		t.Errorf("%v pieces of memory", pieces)
	}
}

// checkZero asks all there is of chains that can't have anything.
func checkZero(t *testing.T, c *Chains) {
	t.Helper()
	numbers := append(outside(0), 3)
	for _, n := range numbers {
		for _, m := range numbers {
			if c.Push(n, m) {
				t.Errorf("Push(%d, %d)", n, m)
			}
			if place, ok := c.At(n, m); place != 0 || ok {
				t.Errorf("At(%d, %d): %d, %v", n, m, place, ok)
			}
			if place, ok := c.Cut(n, m); place != 0 || ok {
				t.Errorf("Cut(%d, %d): %d, %v", n, m, place, ok)
			}
		}
		if place, ok := c.Pop(n); place != 0 || ok {
			t.Errorf("Pop(%d): %d, %v", n, place, ok)
		}
		if line, ok := c.Line(n); line != 0 || ok {
			t.Errorf("Line(%d): %d, %v", n, line, ok)
		}
		if got := c.Len(n); got != 0 {
			t.Errorf("Len(%d): %d", n, got)
		}
	}
}

func TestNilChains(t *testing.T) {
	checkZero(t, nil)
}

func TestChainsMadeByHandDontPanic(t *testing.T) {
	checkZero(t, &Chains{})
	c := made(t, 2, 3)
	for step := range 20 {
		copied := *c
		for _, d := range []*Chains{c, &copied, c, &copied} {
			d.Push(step%2, step%3)
			copied.Push(1, 2)
			c.Cut(0, 1)
			d.At(0, 0)
			copied.Pop(1)
			d.Line(step % 3)
			d.Len(0)
		}
	}
}

// FuzzAgainstLists does the steps that are handed in, to as many lines and
// places as are handed in: each step is two bytes, the first of which says
// what is done to which line.
func FuzzAgainstLists(f *testing.F) {
	f.Add(uint8(0), uint8(0), []byte{0, 1, 0, 1, 128, 1, 192, 1})
	f.Add(uint8(1), uint8(5), []byte{1, 6, 1, 4, 1, 5, 2, 4, 193, 1, 193, 3, 129, 0, 129, 0, 2, 6})
	f.Add(uint8(3), uint8(9), []byte{1, 1, 2, 2, 3, 3, 4, 4, 5, 5, 1, 5, 1, 6, 193, 2, 194, 1, 131, 0, 3, 3, 255, 255})
	f.Fuzz(func(t *testing.T, lines, places uint8, steps []byte) {
		p := newPair(t, int(lines)%(2*api.MaxBuckets+1)+1, int(places)+1)
		for ; len(steps) >= 2; steps = steps[2:] {
			does, n := int(steps[0]), int(steps[1])-1
			switch {
			case does < 128: // Push onto a line, from -1 on
				p.push(does-1, n)
			case does < 192: // Pop of a line, from -1 on
				p.pop(does - 129)
			default: // Cut of a line, from -1 on
				p.cut(does-193, n)
			}
		}
	})
}
