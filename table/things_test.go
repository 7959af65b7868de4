package table

import (
	"errors"
	"math"
	"reflect"
	"slices"
	"testing"

	"bailiff/api"
)

// deal is a struct with fields of several kinds.
type deal struct {
	Number int64
	Name   string
	List   []byte
	Prefix api.Prefix
}

// things goes through all calls of a table of one type; same is whether two
// things are the same one.
func things[V any](t *testing.T, same func(a, b V) bool, a, b, c V) {
	t.Helper()
	x := made[V](t, 2)
	has := func(p api.Prefix, want V, there bool) {
		t.Helper()
		got, ok := x.Get(p)
		if ok != there || there && !same(got, want) || !there && !reflect.ValueOf(&got).Elem().IsZero() {
			t.Fatalf("of %T: Get(%v): %v, %v; not %v, %v", a, p, got, ok, want, there)
		}
	}
	one, two, three := six(1), four(2), four(3)
	has(one, a, false)
	if !x.Put(one, a) || !x.Put(two, b) || x.Put(three, c) {
		t.Fatalf("of %T: Put", a)
	}
	has(one, a, true)
	has(two, b, true)
	has(three, c, false)
	if !x.Put(one, c) || !x.Put(two, b) || x.Len() != 2 {
		t.Fatalf("of %T: Put anew", a)
	}
	has(one, c, true)
	has(two, b, true)
	if !x.Del(one) || x.Del(one) || x.Del(three) {
		t.Fatalf("of %T: Del", a)
	}
	has(one, c, false)
	has(two, b, true)
	if !x.Put(three, a) || !slices.Equal(x.All(), []api.Prefix{two, three}) || !x.Del(two) {
		t.Fatalf("of %T: %v", a, x.All())
	}
	has(two, b, false)
	has(three, a, true)
	ofNone(t, a)
	byHand(a)
}

// equal is of things that == can hold against each other.
func equal[V comparable](a, b V) bool { return a == b }

// sameList is whether a and b are one list, in one place.
func sameList[E any](a, b []E) bool {
	return (a == nil) == (b == nil) && len(a) == len(b) && cap(a) == cap(b) && (cap(a) == 0 || &a[:1][0] == &b[:1][0])
}

// sameDeal is whether a and b are one struct, with one list.
func sameDeal(a, b deal) bool {
	return a.Number == b.Number && a.Name == b.Name && a.Prefix == b.Prefix && sameList(a.List, b.List)
}

func TestThings(t *testing.T) {
	things(t, equal, 1, 2, 3)
	things(t, equal, 0, 0, 0)
	things(t, equal, int8(-128), int8(127), int8(0))
	things(t, equal, uint64(math.MaxUint64), 1, 0)
	things(t, equal, true, false, true)
	things(t, equal, "a", "", "c")
	things(t, equal, "same", "same", "same")
	things(t, equal, [3]int{1}, [3]int{}, [3]int{0, 0, 3})
	things(t, equal, struct{}{}, struct{}{}, struct{}{})
	things(t, equal, new(int), nil, new(int))
	things(t, equal, four(1), six(1), four(2))
	things(t, equal, any(1), any(nil), any("c"))
	things(t, equal, errors.New("a"), nil, errors.New("c"))
	things(t, equal, make(chan int), nil, make(chan int))
	things(t, sameList, []int{1, 2}, nil, []int{})
	things(t, sameList, make([]string, 1, 5), []string{"b"}, make([]string, 0, 3))
	things(t, sameDeal, deal{Number: 1, List: []byte{1}}, deal{}, deal{Name: "c", Prefix: six(7)})
	things(t, func(a, b map[int]int) bool { return len(a) == len(b) }, map[int]int{1: 1}, nil, map[int]int{})
	things(t, func(a, b func() int) bool { return (a == nil) == (b == nil) }, func() int { return 1 }, nil, func() int { return 3 })
	things(t, func(a, b float64) bool { return math.Float64bits(a) == math.Float64bits(b) }, math.NaN(), math.Copysign(0, -1), math.Inf(1))
	things(t, equal, made[int](t, 1), nil, made[int](t, 2))
	things(t, func(a, b [1 << 16]byte) bool { return a == b }, [1 << 16]byte{1}, [1 << 16]byte{}, [1 << 16]byte{1<<16 - 1: 3})
}

// A list is kept as it was handed in: the same one, not another like it; and
// its spare room is left as it is.
func TestListsAreKeptAsTheyAre(t *testing.T) {
	x := made[[]int](t, 3)
	whole := []int{1, 2, 3, 4, 5}
	x.Put(four(2), whole[:2])
	x.Put(four(1), whole[3:4])
	x.Put(four(3), whole[:0:0])
	if !slices.Equal(whole, []int{1, 2, 3, 4, 5}) {
		t.Fatal(whole)
	}
	whole[0], whole[3] = 77, 78
	for p, want := range map[api.Prefix][]int{four(2): whole[:2], four(1): whole[3:4], four(3): whole[:0:0]} {
		if got, ok := x.Get(p); !ok || !slices.Equal(got, want) || cap(got) != cap(want) {
			t.Errorf("%v has %v", p, got)
		}
	}
	got, _ := x.Get(four(2))
	got[1] = 79
	if l, _ := x.Get(four(2)); l[1] != 79 || whole[1] != 79 {
		t.Error(l)
	}
	x.Del(four(1))
	x.Put(four(2), nil)
	if !slices.Equal(whole, []int{77, 79, 3, 78, 5}) {
		t.Error(whole)
	}
}

// ofNone goes through all calls of a nil table.
func ofNone[V any](t *testing.T, v V) {
	t.Helper()
	var x *Table[V]
	for range 2 {
		for _, p := range strewn() {
			got, ok := x.Get(p)
			if ok || !reflect.ValueOf(&got).Elem().IsZero() || x.Put(p, v) || x.Del(p) || x.Len() != 0 || len(x.All()) != 0 {
				t.Fatalf("of %T: %v", v, p)
			}
		}
	}
}

func TestOfNone(t *testing.T) {
	ofNone(t, 1)
	ofNone(t, "a")
	ofNone(t, []int{1})
	ofNone(t, deal{Number: 1})
}

// byHand goes through all calls of tables of which nothing is promised but
// that none of them panics.
func byHand[V any](v V) {
	for _, x := range []*Table[V]{{}, new(Table[V]), {room: math.MinInt}, {room: 2}, {room: math.MaxInt},
		{entries: []entry[V]{{six(9), v}, {four(1), v}, {six(9), v}}, room: 4}, {entries: make([]entry[V], 3, 9), room: -1}} {
		for range 2 {
			for _, p := range []api.Prefix{{}, six(9), four(1), {V6: true}} {
				x.Put(p, v)
				x.Get(p)
				x.Len()
				x.All()
				x.Del(p)
			}
		}
	}
}

func TestMadeByHand(t *testing.T) {
	byHand(1)
	byHand([]string{"a"})
	var x Table[int]
	if x.Put(four(1), 1) || x.Del(four(1)) || x.Len() != 0 || len(x.All()) != 0 {
		t.Error("one without room has somebody")
	}
}
