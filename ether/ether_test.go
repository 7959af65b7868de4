package ether

import (
	"bytes"
	"math/rand"
	"slices"
	"sync"
	"testing"

	"bailiff/api"
)

// tagKinds are the types that are tags.
var tagKinds = []uint16{0x8100, 0x88a8}

// tagsAhead are all the tags that may stand ahead of what a frame carries.
var tagsAhead = [][]uint16{
	{},
	{0x8100}, {0x88a8},
	{0x8100, 0x8100}, {0x8100, 0x88a8}, {0x88a8, 0x8100}, {0x88a8, 0x88a8},
}

// notIP are types that are neither IPv4, IPv6 nor a tag: some that are in use,
// lengths, the edges, those beside the known ones, and the known ones with
// their bytes turned round or of other ones.
var notIP = []uint16{
	0x0000, 0x0001, 0x003c, 0x05dc, 0x0600, 0x0806, 0x86d0, 0x8847, 0x8863, 0x9100, 0x9200, 0x9300, 0xffff,
	0x07ff, 0x0801, 0x86dc, 0x86de, 0x80ff, 0x8101, 0x88a7, 0x88a9,
	0x0008, 0xdd86, 0x0081, 0xa888,
	0x08dd, 0x8600, 0x81a8, 0x8800, 0x00dd, 0x00a8, 0x88dd, 0x86a8, 0x0900, 0x1800,
}

// made is a frame of these types, one behind the other, with two bytes behind
// each but the last, and with more behind that.
func made(types []uint16, more ...byte) []byte {
	frame := []byte{0x02, 1, 2, 3, 4, 5, 0x06, 7, 8, 9, 10, 11}
	for k, kind := range types {
		if k > 0 {
			frame = append(frame, 0xe0+byte(k), 0x64+byte(k))
		}
		frame = append(frame, byte(kind>>8), byte(kind))
	}
	return append(frame, more...)
}

// behind is the types with one more behind them.
func behind(types []uint16, kind uint16) []uint16 {
	return append(slices.Clone(types), kind)
}

// check fails unless the frame is answered as it ought to be.
func check(t *testing.T, frame []byte, want Link, why api.Reason) {
	t.Helper()
	if got, reason := Parse(frame); got != want || reason != why {
		t.Fatalf("%d bytes, %x: %v %d, not %v %d", len(frame), frame[:min(len(frame), 40)], got, reason, want, why)
	}
}

// plain is the chapter's words once more, for each number of tags by itself,
// with the places counted by hand.
func plain(frame []byte) (Link, api.Reason) {
	is := func(at int, kinds ...string) bool {
		return slices.Contains(kinds, string(frame[at:at+2]))
	}
	const tag, outer, four, six = "\x81\x00", "\x88\xa8", "\x08\x00", "\x86\xdd"
	switch {
	case len(frame) < 14:
		return Link{}, api.Short
	case is(12, four, six):
		return Link{is(12, six), 14}, api.Fine
	case !is(12, tag, outer):
		return Link{}, api.NotIP
	case len(frame) < 18:
		return Link{}, api.Short
	case is(16, four, six):
		return Link{is(16, six), 18}, api.Fine
	case !is(16, tag, outer):
		return Link{}, api.NotIP
	case len(frame) < 22:
		return Link{}, api.Short
	case is(20, four, six):
		return Link{is(20, six), 22}, api.Fine
	case !is(20, tag, outer):
		return Link{}, api.NotIP
	}
	return Link{}, api.TooMany
}

// checkPlain fails unless the frame is answered as the plain way does, and a
// reason other than Fine stands beside nothing.
func checkPlain(t *testing.T, frame []byte) {
	t.Helper()
	want, why := plain(frame)
	check(t, frame, want, why)
	if why != api.Fine && want != (Link{}) {
		t.Fatalf("%x: %v beside %d", frame, want, why)
	}
}

func TestTheChaptersExample(t *testing.T) {
	check(t, []byte{0, 0, 0, 0, 0, 0, 0, 0, 0, 0, 0, 0, 0x08, 0x00}, Link{At: 14}, api.Fine)
}

func TestFramesByHand(t *testing.T) {
	for _, c := range []struct {
		types string
		want  Link
		why   api.Reason
	}{
		{"\x08\x00", Link{false, 14}, api.Fine},
		{"\x86\xdd", Link{true, 14}, api.Fine},
		{"\x08\x06", Link{}, api.NotIP},
		{"\x81\x00\x00\x05\x08\x00", Link{false, 18}, api.Fine},
		{"\x81\x00\x00\x05\x86\xdd", Link{true, 18}, api.Fine},
		{"\x81\x00\x00\x05\x08\x06", Link{}, api.NotIP},
		{"\x88\xa8\x00\x05\x08\x00", Link{false, 18}, api.Fine},
		{"\x88\xa8\x00\x05\x86\xdd", Link{true, 18}, api.Fine},
		{"\x88\xa8\x00\x05\x08\x06", Link{}, api.NotIP},
		{"\x88\xa8\x00\x05\x81\x00\x00\x06\x08\x00", Link{false, 22}, api.Fine},
		{"\x88\xa8\x00\x05\x81\x00\x00\x06\x86\xdd", Link{true, 22}, api.Fine},
		{"\x88\xa8\x00\x05\x81\x00\x00\x06\x08\x06", Link{}, api.NotIP},
		{"\x88\xa8\x00\x05\x81\x00\x00\x06\x81\x00", Link{}, api.TooMany},
		{"\x88\xa8\x00\x05\x81\x00\x00\x06\x88\xa8", Link{}, api.TooMany},
		{"\x88\xa8\x00\x05\x81\x00\x00\x06\x81\x00\x00\x07\x08\x00", Link{}, api.TooMany},
		{"\x88\xa8\x00\x05\x81\x00\x00\x06\x88", Link{}, api.Short},
		{"\x88\xa8\x00\x05\x81\x00\x00\x06", Link{}, api.Short},
		{"\x88\xa8\x00\x05\x81\x00\x00", Link{}, api.Short},
		{"\x88\xa8\x00\x05\x81\x00", Link{}, api.Short},
		{"\x88\xa8\x00\x05\x81", Link{}, api.Short},
		{"\x88\xa8\x00\x05", Link{}, api.Short},
		{"\x88\xa8\x00", Link{}, api.Short},
		{"\x88\xa8", Link{}, api.Short},
		{"\x88", Link{}, api.Short},
		{"", Link{}, api.Short},
	} {
		frame := append([]byte("\x02\x01\x02\x03\x04\x05\x06\x07\x08\x09\x0a\x0b"), c.types...)
		check(t, frame, c.want, c.why)
	}
}

func TestNoBytes(t *testing.T) {
	check(t, nil, Link{}, api.Short)
	check(t, []byte{}, Link{}, api.Short)
	check(t, made([]uint16{0x0800})[:0], Link{}, api.Short)
	check(t, made([]uint16{0x0800})[14:], Link{}, api.Short)
}

// At the type's end, and with ever more behind it.
func TestEachTypeBehindEachTags(t *testing.T) {
	for _, tags := range tagsAhead {
		at := 14 + 4*len(tags)
		for _, more := range []int{0, 1, 2, 3, 4, 20, 46, 1500, api.MaxFrame, 1 << 17} {
			carried := bytes.Repeat([]byte{0x81, 0x00}, more)[:more]
			check(t, made(behind(tags, 0x0800), carried...), Link{false, at}, api.Fine)
			check(t, made(behind(tags, 0x86dd), carried...), Link{true, at}, api.Fine)
			for _, kind := range notIP {
				check(t, made(behind(tags, kind), carried...), Link{}, api.NotIP)
			}
		}
	}
}

// Of all types there are four that are not NotIP.
func TestEveryTypeBehindEachTags(t *testing.T) {
	for _, tags := range tagsAhead {
		at := 14 + 4*len(tags)
		counts := map[api.Reason]int{}
		for kind := range 1 << 16 {
			frame := made(behind(tags, uint16(kind)))
			checkPlain(t, frame)
			link, why := Parse(frame)
			counts[why]++
			if why == api.Fine && link != (Link{kind == 0x86dd, at}) {
				t.Fatalf("%04x behind %x: %v", kind, tags, link)
			}
		}
		last := api.Short // of a tag, at whose end the frame ends
		if len(tags) == 2 {
			last = api.TooMany
		}
		if counts[api.Fine] != 2 || counts[last] != 2 || counts[api.NotIP] != 1<<16-4 {
			t.Errorf("behind %x: %v", tags, counts)
		}
	}
}

func TestShortAheadOfEachTypesEnd(t *testing.T) {
	for _, tags := range tagsAhead {
		for _, kind := range append([]uint16{0x0800, 0x86dd, 0x8100, 0x88a8}, notIP...) {
			frame := made(behind(tags, kind))
			for n := range frame {
				check(t, frame[:n], Link{}, api.Short)
				check(t, slices.Clip(frame[:n]), Link{}, api.Short)
			}
		}
	}
}

func TestAThirdTag(t *testing.T) {
	for _, tags := range tagsAhead {
		if len(tags) < 2 {
			continue
		}
		for _, third := range tagKinds {
			three := behind(tags, third)
			check(t, made(three), Link{}, api.TooMany)
			for n := range 5 {
				check(t, made(three, make([]byte, n)...), Link{}, api.TooMany)
			}
			for _, kind := range append([]uint16{0x0800, 0x86dd, 0x8100, 0x88a8}, notIP...) {
				check(t, made(behind(three, kind)), Link{}, api.TooMany)
				check(t, made(behind(three, kind), make([]byte, 1500)...), Link{}, api.TooMany)
			}
		}
	}
}

func TestManyTags(t *testing.T) {
	for n := 3; n < 400; n++ {
		check(t, made(behind(slices.Repeat([]uint16{0x8100}, n), 0x0800)), Link{}, api.TooMany)
		check(t, made(behind(slices.Repeat([]uint16{0x88a8}, n), 0x86dd)), Link{}, api.TooMany)
	}
}

// The questions are asked in the order in which the bytes stand: what stands
// behind the place at which an answer is known makes no difference, nor
// whether it is there.
func TestTheFirstReasonByPlace(t *testing.T) {
	for _, tags := range tagsAhead {
		for _, kind := range notIP {
			for _, next := range []uint16{0x0800, 0x86dd, 0x8100, 0x88a8} {
				check(t, made([]uint16{kind, next, next, next}), Link{}, api.NotIP)
				frame := made(behind(behind(tags, kind), next))
				for n := 14 + 4*len(tags); n <= len(frame); n++ {
					check(t, frame[:n], Link{}, api.NotIP)
				}
			}
		}
	}
	check(t, made([]uint16{0x0800, 0x86dd, 0x8100}), Link{false, 14}, api.Fine)
	check(t, made([]uint16{0x86dd, 0x0800, 0x0806}), Link{true, 14}, api.Fine)
	check(t, made([]uint16{0x8100, 0x86dd, 0x8100, 0x8100}), Link{true, 18}, api.Fine)
}

// fills are frames of one type behind some tags whose other bytes are all the
// same, or like a type or a tag, in the addresses as well.
func fills(types []uint16) [][]byte {
	var all [][]byte
	for _, pair := range [][2]byte{{0, 0}, {0xff, 0xff}, {0x08, 0x00}, {0x00, 0x08}, {0x86, 0xdd}, {0xdd, 0x86}, {0x81, 0x00}, {0x00, 0x81}, {0x88, 0xa8}, {0xa8, 0x88}} {
		frame := bytes.Repeat(pair[:], 40)
		for k, kind := range types {
			frame[12+4*k], frame[13+4*k] = byte(kind>>8), byte(kind)
		}
		all = append(all, frame)
	}
	return all
}

func TestAddressesTagsAndWhatIsCarriedMakeNoDifference(t *testing.T) {
	for _, tags := range tagsAhead {
		at := 14 + 4*len(tags)
		for _, frame := range fills(behind(tags, 0x0800)) {
			check(t, frame, Link{false, at}, api.Fine)
		}
		for _, frame := range fills(behind(tags, 0x86dd)) {
			check(t, frame, Link{true, at}, api.Fine)
		}
		for _, frame := range fills(behind(tags, 0x0806)) {
			check(t, frame, Link{}, api.NotIP)
		}
		if len(tags) == 2 {
			for _, frame := range fills(behind(tags, 0x8100)) {
				check(t, frame, Link{}, api.TooMany)
			}
		}
	}
}

// Each value of each byte that isn't of a type.
func TestEachOtherByteMakesNoDifference(t *testing.T) {
	for _, tags := range tagsAhead {
		for _, kind := range []uint16{0x0800, 0x86dd, 0x0806, 0x8100} {
			frame := made(behind(tags, kind), make([]byte, 20)...)
			want, why := plain(frame)
			end := 14 + 4*len(tags)
			for at := range frame {
				ofType := at >= 12 && at < end && (at-12)%4 < 2
				if ofType || kind == 0x8100 && at >= end {
					continue
				}
				before := frame[at]
				for b := range 256 {
					frame[at] = byte(b)
					check(t, frame, want, why)
				}
				frame[at] = before
			}
		}
	}
}

// The spare room is as if it weren't there: it could make a short frame whole.
func TestSpareRoomMakesNoDifference(t *testing.T) {
	for _, tags := range tagsAhead {
		whole := made(behind(tags, 0x86dd), 1, 2, 3, 4)
		for n := range len(whole) + 1 {
			want, why := plain(slices.Clone(whole[:n]))
			check(t, whole[:n], want, why)
			check(t, slices.Clip(whole[:n]), want, why)
		}
	}
}

func TestWhatIsHandedInStaysAsItWas(t *testing.T) {
	for _, tags := range tagsAhead {
		for _, kind := range []uint16{0x0800, 0x86dd, 0x0806, 0x8100} {
			room := append([]byte{9, 9, 9}, made(behind(tags, kind), 1, 2, 3, 4, 5, 6, 7, 8)...)
			before := slices.Clone(room)
			for n := range len(room) - 2 {
				frame := room[3 : 3+n]
				Parse(frame)
				if !bytes.Equal(room, before) || len(frame) != n {
					t.Fatalf("%d bytes: %x, and was %x", n, room, before)
				}
			}
		}
	}
}

// An answer is of what the frame has when it is asked.
func TestWhatIsHandedInIsNotKept(t *testing.T) {
	frame := made([]uint16{0x8100, 0x86dd})
	first, _ := Parse(frame)
	for range 3 {
		check(t, frame, Link{true, 18}, api.Fine)
		frame[16], frame[17] = 0x08, 0x00
		check(t, frame, Link{false, 18}, api.Fine)
		frame[12], frame[13] = 0x08, 0x06
		check(t, frame, Link{}, api.NotIP)
		copy(frame[12:], "\x88\xa8\x00\x00\x86\xdd")
	}
	clear(frame)
	if first != (Link{true, 18}) {
		t.Errorf("%v", first)
	}
}

func TestDrawnFramesAgainstThePlainWay(t *testing.T) {
	draw := rand.New(rand.NewSource(8))
	known := []uint16{0x0800, 0x86dd, 0x8100, 0x88a8}
	seen := map[api.Reason]int{}
	for range 200000 {
		frame := make([]byte, draw.Intn(32))
		draw.Read(frame)
		for at := 12; at+1 < len(frame); at += 4 {
			if kind := known[draw.Intn(4)]; draw.Intn(8) > 0 {
				frame[at], frame[at+1] = byte(kind>>8), byte(kind)
			}
		}
		checkPlain(t, frame)
		_, why := Parse(frame)
		seen[why]++
	}
	for _, why := range []api.Reason{api.Fine, api.Short, api.NotIP, api.TooMany} {
		if seen[why] < 1000 {
			t.Errorf("reason %d came %d times alone", why, seen[why])
		}
	}
}

func TestSeveralAtOnce(t *testing.T) {
	frame := made([]uint16{0x88a8, 0x8100, 0x86dd}, 1, 2, 3)
	var all sync.WaitGroup
	for range 8 {
		all.Go(func() {
			for k := range 2000 {
				n := k % (len(frame) + 1)
				want, why := plain(frame[:n])
				if got, reason := Parse(frame[:n]); got != want || reason != why {
					t.Errorf("%d bytes: %v %d", n, got, reason)
					return
				}
			}
		})
	}
	all.Wait()
}

func FuzzAgainstThePlainWay(f *testing.F) {
	f.Add([]byte(nil))
	for _, tags := range tagsAhead {
		for _, kind := range []uint16{0x0800, 0x86dd, 0x0806, 0x8100, 0x88a8} {
			f.Add(made(behind(tags, kind)))
			f.Add(made(behind(tags, kind), 0x45, 0))
		}
	}
	f.Fuzz(func(t *testing.T, frame []byte) {
		before := slices.Clone(frame)
		checkPlain(t, frame)
		if !bytes.Equal(frame, before) {
			t.Fatalf("%x, and was %x", frame, before)
		}
	})
}
