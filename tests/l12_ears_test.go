package tests

import (
	"testing"

	"loop.example/netstack/impl"
)

// earPlaces and earRooms return places and rooms of ears: both ends, what is next to them, and some between.
func earPlaces() []int {
	return []int{0, 1, 5, 300, 65530, 65536, 999968, 999990, 999999, 1000000}
}

func earRooms() []int {
	return []int{1, 2, 3, 6, 17, 31, 32}
}

// noEarRooms returns numbers that are no rooms of an ear.
func noEarRooms() []int {
	return []int{least, -1000000, -32, -1, 0, 33, 34, 64, 255, 256, 1000000, greatest - 1000000, greatest}
}

// earWith returns an ear with so many bytes to be read, and early bytes so many places behind Next.
func earWith(next int, room int, got int, steps []int) impl.Ear {
	e := impl.Ear{Next: next, Room: room, Got: mixedBytes(next+got, got)}
	for i, step := range steps {
		e.Far = append(e.Far, impl.Early{At: next + step, B: mixedBytes(i, 1)[0]})
	}
	return e
}

// stepLists returns lists of steps from 1 to one less than what is free: none, the first one, the last one, both, all, each second one, and such as leave one out.
func stepLists(free int) [][]int {
	out := [][]int{nil}
	if free < 2 {
		return out
	}
	out = append(out, []int{1}, []int{free - 1}, stepsBetween(1, free, 1), stepsBetween(1, free, 2), stepsBetween(2, free, 2), stepsBetween(1, free, 3))
	for _, gap := range []int{1, 2, free / 2, free - 1} {
		out = append(out, joinedInts(stepsBetween(1, gap, 1), stepsBetween(gap+1, free, 1)))
	}
	return out
}

// stepsBetween returns the numbers from one on, ahead of another one, each by so many more.
func stepsBetween(from int, to int, more int) []int {
	out := []int{}
	for step := from; step < to; step += more {
		out = append(out, step)
	}
	return out
}

// sampleEars returns ears at both ends, with all rooms, with nothing to be read, with as much as there is room for, and between, and with early bytes of all kinds.
func sampleEars() []impl.Ear {
	out := []impl.Ear{}
	for _, next := range earPlaces() {
		for _, room := range earRooms() {
			for _, got := range []int{0, 1, room / 2, room - 1, room} {
				for _, steps := range stepLists(room - got) {
					out = append(out, earWith(next, room, got, steps))
				}
			}
		}
	}
	return out
}

// mixedEar returns an ear in which nothing is in an order that can be seen, the same one for the same seed.
func mixedEar(seed int) impl.Ear {
	b := mixedBytes(seed, 40)
	e := impl.Ear{Next: mixedPlace(seed), Room: 1 + int(b[0])%32}
	e.Got = mixedBytes(seed+1, int(b[1])%(e.Room+1))
	for step := 1; step < e.Room-len(e.Got); step++ {
		if b[2+step] < b[2] {
			e.Far = append(e.Far, impl.Early{At: e.Next + step, B: b[3+step]})
		}
	}
	return e
}

// farAt returns early bytes at places.
func farAt(places ...int) []impl.Early {
	out := []impl.Early{}
	for i, at := range places {
		out = append(out, impl.Early{At: at, B: byte('a' + i)})
	}
	return out
}

// badEars returns ears that are none: one thing is out of range, or all are.
func badEars() []impl.Ear {
	out := []impl.Ear{
		{},
		{Next: 5},
		{Got: []byte("a")},
		{Next: -1, Room: 33, Got: filledBytes(1, 34), Far: farAt(7, 7)},
	}
	for _, v := range noPlaces() {
		out = append(out, impl.Ear{Next: v, Room: 6}, impl.Ear{Next: v, Room: 6, Got: []byte("ab"), Far: farAt(7)})
	}
	for _, v := range []int{-1, 1000001} {
		out = append(out, impl.Ear{Next: v, Room: 32, Far: farAt(v+1, v+31)})
	}
	for _, v := range noEarRooms() {
		out = append(out, impl.Ear{Next: 5, Room: v}, impl.Ear{Next: 5, Room: v, Got: []byte("ab"), Far: farAt(7, 9)})
	}
	for _, room := range earRooms() {
		for _, more := range []int{1, 2, 32, 256} {
			out = append(out, impl.Ear{Next: 5, Room: room, Got: mixedBytes(more, room+more)})
			out = append(out, impl.Ear{Next: 5, Room: room, Got: mixedBytes(more, room+more), Far: farAt(6)})
		}
	}
	return append(out, earsWithBadEarlies()...)
}

// earsWithBadEarlies returns ears that would be ones without their early bytes.
func earsWithBadEarlies() []impl.Ear {
	out := []impl.Ear{}
	for _, v := range append(noPlaces(), -5, 0, 4, 5, 9, 10, 11, 37) {
		out = append(out, impl.Ear{Next: 5, Room: 6, Got: []byte("ab"), Far: farAt(v)})
		out = append(out, impl.Ear{Next: 5, Room: 6, Got: []byte("ab"), Far: farAt(6, v)})
		out = append(out, impl.Ear{Next: 5, Room: 6, Got: []byte("ab"), Far: farAt(v, 8)})
		out = append(out, impl.Ear{Next: 5, Room: 6, Got: []byte("ab"), Far: farAt(7, v, 8)})
	}
	for _, far := range [][]impl.Early{farAt(7, 7), farAt(6, 7, 7), farAt(6, 6, 7), farAt(7, 6), farAt(8, 7, 6), farAt(6, 8, 7), farAt(6, 7, 8, 8)} {
		out = append(out, impl.Ear{Next: 5, Room: 6, Got: []byte("ab"), Far: far})
	}
	for _, room := range earRooms() {
		out = append(out, impl.Ear{Next: 5, Room: room, Far: farAt(5 + room)}, impl.Ear{Next: 5, Room: room, Far: farAt(5)})
		out = append(out, impl.Ear{Next: 5, Room: room, Got: mixedBytes(room, room), Far: farAt(6)})
		out = append(out, impl.Ear{Next: 5, Room: room, Got: mixedBytes(room, room-1), Far: farAt(6)})
	}
	return append(out, impl.Ear{Next: 0, Room: 32, Far: farAt(-1)}, impl.Ear{Next: 0, Room: 32, Far: farAt(0)})
}

// sameFar and sameEar report whether both are the same; none are the same as nil.
func sameFar(a []impl.Early, b []impl.Early) bool {
	if len(a) != len(b) {
		return false
	}
	for i := range a {
		if a[i] != b[i] {
			return false
		}
	}
	return true
}

func sameEar(a impl.Ear, b impl.Ear) bool {
	return a.Next == b.Next && a.Room == b.Room && sameBytes(a.Got, b.Got) && sameFar(a.Far, b.Far)
}

// earOkAsDefined tells by the definition what EarOk tells.
func earOkAsDefined(e impl.Ear) bool {
	ok := e.Next >= 0 && e.Next <= 1000000 && e.Room >= 1 && e.Room <= 32 && len(e.Got) <= e.Room
	for i, f := range e.Far {
		// What an early place is taken from is in range by now, so that nothing is too great for an int.
		ok = ok && f.At > e.Next && f.At-e.Next < e.Room-len(e.Got)
		for _, g := range e.Far[:i] {
			ok = ok && g.At < f.At
		}
	}
	return ok
}

// earHeardAsDefined returns by the definition what an ear is after bytes came: each goes where nothing is yet, and from Next on all that stand there are to be read.
func earHeardAsDefined(e impl.Ear, at int, data []byte) impl.Ear {
	line := make([]int, e.Room-len(e.Got))
	for i := range line {
		line[i] = -1
	}
	for _, f := range e.Far {
		line[f.At-e.Next] = int(f.B)
	}
	for i, b := range data {
		step := at + i - e.Next
		if step >= 0 && step < len(line) && line[step] < 0 {
			line[step] = int(b)
		}
	}
	out := impl.Ear{Next: e.Next, Room: e.Room, Got: copied(e.Got)}
	for step, b := range line {
		if b >= 0 && out.Next == e.Next+step {
			out.Next++
			out.Got = append(out.Got, byte(b))
		} else if b >= 0 {
			out.Far = append(out.Far, impl.Early{At: e.Next + step, B: byte(b)})
		}
	}
	if out.Next > 1000000 {
		return impl.Ear{}
	}
	return out
}

// earRangesAsDefined returns by the definition the ranges of an ear: one begins where none is kept one place ahead, and ends where none is kept any more.
func earRangesAsDefined(e impl.Ear) []impl.Range {
	out := []impl.Range{}
	for place := e.Next + 1; place < e.Next+e.Room; place++ {
		if isEarly(e, place) && !isEarly(e, place-1) && len(out) < 2 {
			to := place
			for isEarly(e, to) {
				to++
			}
			out = append(out, impl.Range{From: place, To: to})
		}
	}
	return out
}

// isEarly reports whether an ear has an early byte at a place.
func isEarly(e impl.Ear, place int) bool {
	for _, f := range e.Far {
		if f.At == place {
			return true
		}
	}
	return false
}

// earOkIs fails unless EarOk tells what is wanted of an ear.
func earOkIs(t *testing.T, e impl.Ear, want bool) {
	t.Helper()
	if got := impl.EarOk(e); got != want {
		t.Fatal(e, got)
	}
}

// freeIs fails unless an ear can take so many bytes.
func freeIs(t *testing.T, e impl.Ear, want int) {
	t.Helper()
	if got := impl.EarFree(e); got != want {
		t.Fatal(e, got, want)
	}
}

// earHearIs fails unless an ear is the ear want after bytes came from a place on.
func earHearIs(t *testing.T, e impl.Ear, at int, data []byte, want impl.Ear) {
	t.Helper()
	if got := impl.EarHear(e, at, data); !sameEar(got, want) {
		t.Fatal(e, at, data, got, want)
	}
}

// earReadIs fails unless reading so many bytes of an ear leaves the ear want, and reads the bytes.
func earReadIs(t *testing.T, e impl.Ear, many int, want impl.Ear, bytes []byte) {
	t.Helper()
	if got, b := impl.EarRead(e, many); !sameEar(got, want) || !sameBytes(b, bytes) {
		t.Fatal(e, many, got, b, want, bytes)
	}
}

// earRangesAre fails unless an ear tells of these ranges.
func earRangesAre(t *testing.T, e impl.Ear, want []impl.Range) {
	t.Helper()
	if got := impl.EarRanges(e); !sameRanges(got, want) {
		t.Fatal(e, got, want)
	}
}

// hearsNothing fails unless an ear is nothing after bytes came from a place on.
func hearsNothing(t *testing.T, e impl.Ear, at int, data []byte) {
	t.Helper()
	earHearIs(t, e, at, data, impl.Ear{})
}

// someTold returns bytes that may come to an ear: none, one, some, and more than it has room for.
func someTold(seed int) [][]byte {
	return [][]byte{nil, mixedBytes(seed, 1), mixedBytes(seed, 2), mixedBytes(seed, 5), mixedBytes(seed, 12), mixedBytes(seed, 33), mixedBytes(seed, 70)}
}

// toldPlaces returns places, as far as they are ones, around what an ear can take: far ahead of it and behind it, at both ends, and next to these.
func toldPlaces(e impl.Ear) []int {
	end := e.Next + e.Room - len(e.Got)
	out := []int{}
	for _, at := range []int{0, 1000000, e.Next - 40, e.Next - 12, e.Next - 5, e.Next - 2, e.Next - 1, e.Next, e.Next + 1, e.Next + 2, end - 5, end - 2, end - 1, end, end + 1, end + 40} {
		if at >= 0 && at <= 1000000 {
			out = append(out, at)
		}
	}
	return out
}

func TestP118KnownEars(t *testing.T) {
	earOkIs(t, impl.Ear{Next: 5, Room: 6}, true)
	earOkIs(t, impl.Ear{Room: 1}, true)
	earOkIs(t, impl.Ear{Room: 1, Got: []byte("a")}, true)
	earOkIs(t, impl.Ear{Room: 1, Got: []byte("ab")}, false)
	earOkIs(t, impl.Ear{Next: 1000000, Room: 32}, true)
	earOkIs(t, impl.Ear{Next: 1000001, Room: 32}, false)
	earOkIs(t, impl.Ear{Next: -1, Room: 32}, false)
	earOkIs(t, impl.Ear{Next: 5, Room: 0}, false)
	earOkIs(t, impl.Ear{Next: 5, Room: 33}, false)
	earOkIs(t, impl.Ear{Next: 5, Room: 6, Got: []byte("ab"), Far: farAt(6)}, true)
	earOkIs(t, impl.Ear{Next: 5, Room: 6, Got: []byte("ab"), Far: farAt(6, 7, 8)}, true)
	earOkIs(t, impl.Ear{Next: 5, Room: 6, Got: []byte("ab"), Far: farAt(8)}, true)
	earOkIs(t, impl.Ear{Next: 5, Room: 6, Got: []byte("ab"), Far: farAt(9)}, false)
	earOkIs(t, impl.Ear{Next: 5, Room: 6, Got: []byte("ab"), Far: farAt(5)}, false)
	earOkIs(t, impl.Ear{Next: 5, Room: 6, Got: []byte("ab"), Far: farAt(4)}, false)
	earOkIs(t, impl.Ear{Next: 5, Room: 6, Got: []byte("ab"), Far: farAt(7, 7)}, false)
	earOkIs(t, impl.Ear{Next: 5, Room: 6, Got: []byte("ab"), Far: farAt(8, 7)}, false)
}

func TestP118EarlyPlacesMayBeBeyondAllPlaces(t *testing.T) {
	// Just the place for which an ear waits ends at 1000000.
	earOkIs(t, impl.Ear{Next: 1000000, Room: 32, Far: farAt(1000001, 1000031)}, true)
	earOkIs(t, impl.Ear{Next: 1000000, Room: 32, Far: farAt(1000001, 1000032)}, false)
	earOkIs(t, impl.Ear{Next: 999999, Room: 2, Far: farAt(1000000)}, true)
}

func TestP118NoMoreIsKeptThanThereIsRoomFor(t *testing.T) {
	for _, e := range sampleEars() {
		earOkIs(t, e, true)
		if len(e.Got)+len(e.Far) > e.Room {
			t.Fatal(e)
		}
		e.Far = nil
		earOkIs(t, e, true)
		e.Got = nil
		earOkIs(t, e, true)
	}
}

func TestP118AllRooms(t *testing.T) {
	for room := -40; room <= 300; room++ {
		for got := 0; got <= 40; got++ {
			e := earWith(300, room, got, nil)
			earOkIs(t, e, room >= 1 && room <= 32 && got <= room)
			if room >= 1 && room <= 32 && got <= room {
				// Whatever is free but the first place may be there already.
				earOkIs(t, earWith(300, room, got, stepsBetween(1, room-got, 1)), true)
				earOkIs(t, earWith(300, room, got, stepsBetween(1, room-got+1, 1)), got == room)
			}
		}
	}
}

func TestP118AllEarlyPlaces(t *testing.T) {
	for _, next := range earPlaces() {
		for _, room := range earRooms() {
			for _, got := range []int{0, 1, room / 2, room} {
				for step := -40; step <= 80; step++ {
					earOkIs(t, earWith(next, room, got, []int{step}), step >= 1 && step < room-got)
					for other := -3; other <= 35; other++ {
						e := earWith(next, room, got, []int{step, other})
						earOkIs(t, e, step >= 1 && step < other && other < room-got)
					}
				}
			}
		}
	}
}

func TestP118EarsAreAsDefined(t *testing.T) {
	for seed := 0; seed < 4000; seed++ {
		e := mixedEar(seed)
		earOkIs(t, e, true)
		b := mixedBytes(seed+7, 4)
		for _, v := range []int{int(b[0]) - 128, e.Next, e.Next + int(b[1])%36 - 2, e.Next + e.Room - len(e.Got)} {
			other := e
			other.Room = v
			earOkIs(t, other, earOkAsDefined(other))
			other = e
			other.Far = farAt(v, e.Next+int(b[2])%33)
			earOkIs(t, other, earOkAsDefined(other))
			other.Far = append(append([]impl.Early{}, e.Far...), impl.Early{At: v})
			earOkIs(t, other, earOkAsDefined(other))
			other.Far = append(farAt(v), e.Far...)
			earOkIs(t, other, earOkAsDefined(other))
		}
	}
}

func TestP118InvalidEarsAreNotOk(t *testing.T) {
	for _, e := range badEars() {
		earOkIs(t, e, false)
	}
	// Sums of places and rooms that are too great for an int.
	earOkIs(t, impl.Ear{Next: 1000000, Room: greatest, Far: farAt(1000001)}, false)
	earOkIs(t, impl.Ear{Next: greatest, Room: 32, Far: farAt(least)}, false)
	earOkIs(t, impl.Ear{Next: 5, Room: 32, Far: farAt(least, greatest)}, false)
}

func TestP119KnownRoomThatIsFree(t *testing.T) {
	freeIs(t, impl.Ear{Next: 5, Room: 6}, 6)
	freeIs(t, impl.Ear{Next: 5, Room: 6, Got: []byte("ab")}, 4)
	freeIs(t, impl.Ear{Next: 5, Room: 6, Got: []byte("abcdef")}, 0)
	// It is told from Next on, so what came early counts as well as what is still to come.
	freeIs(t, impl.Ear{Next: 5, Room: 6, Got: []byte("ab"), Far: farAt(6, 8)}, 4)
	freeIs(t, impl.Ear{Room: 1}, 1)
	freeIs(t, impl.Ear{Room: 1, Got: []byte("a")}, 0)
	freeIs(t, impl.Ear{Next: 1000000, Room: 32, Far: farAt(1000001)}, 32)
}

func TestP119ItIsWhatIsNotToBeRead(t *testing.T) {
	for _, e := range sampleEars() {
		freeIs(t, e, e.Room-len(e.Got))
		if free := impl.EarFree(e); free < 0 || free > e.Room {
			t.Fatal(e, free)
		}
	}
}

func TestP119WhatIsReadIsFree(t *testing.T) {
	for _, e := range sampleEars() {
		for many := 0; many <= len(e.Got)+2; many++ {
			left, _ := impl.EarRead(e, many)
			read := many
			if read > len(e.Got) {
				read = len(e.Got)
			}
			freeIs(t, left, impl.EarFree(e)+read)
		}
		left, _ := impl.EarRead(e, len(e.Got))
		freeIs(t, left, e.Room)
	}
}

func TestP119JustAsMuchAsIsFreeIsTaken(t *testing.T) {
	for _, e := range sampleEars() {
		if e.Next > 999960 {
			continue
		}
		free := impl.EarFree(e)
		got := impl.EarHear(e, e.Next, mixedBytes(3, 40))
		if got.Next != e.Next+free || impl.EarFree(got) != 0 || len(got.Got) != e.Room || len(got.Far) != 0 {
			t.Fatal(e, got)
		}
	}
}

func TestP119InvalidEarsAreNotFree(t *testing.T) {
	for _, e := range badEars() {
		freeIs(t, e, 0)
	}
}

func TestP41KnownBytesThatCome(t *testing.T) {
	e := impl.Ear{Next: 5, Room: 6, Got: []byte("x")}
	earHearIs(t, e, 5, []byte("ab"), impl.Ear{Next: 7, Room: 6, Got: []byte("xab")})
	earHearIs(t, e, 6, []byte("ab"), impl.Ear{Next: 5, Room: 6, Got: []byte("x"), Far: farAt(6, 7)})
	earHearIs(t, e, 9, []byte("a"), impl.Ear{Next: 5, Room: 6, Got: []byte("x"), Far: farAt(9)})
	// The room that is left goes up to the place 9.
	earHearIs(t, e, 8, []byte("abc"), impl.Ear{Next: 5, Room: 6, Got: []byte("x"), Far: farAt(8, 9)})
	earHearIs(t, e, 10, []byte("ab"), e)
	earHearIs(t, e, 5, []byte("abcdefgh"), impl.Ear{Next: 10, Room: 6, Got: []byte("xabcde")})
}

func TestP41BytesThatBeginAheadOfThePlace(t *testing.T) {
	e := impl.Ear{Next: 5, Room: 6, Far: farAt(8)}
	earHearIs(t, e, 0, []byte("zz"), e)
	earHearIs(t, e, 3, []byte("z"), e)
	earHearIs(t, e, 4, []byte("z"), e)
	earHearIs(t, e, 0, []byte("zzzzz"), e)
	earHearIs(t, e, 4, []byte("zy"), impl.Ear{Next: 6, Room: 6, Got: []byte("y"), Far: farAt(8)})
	earHearIs(t, e, 0, []byte("zzzzzyx"), impl.Ear{Next: 7, Room: 6, Got: []byte("yx"), Far: farAt(8)})
	earHearIs(t, e, 2, []byte("zzzyxw"), impl.Ear{Next: 9, Room: 6, Got: []byte("yxwa")})
}

func TestP41BytesThatEndAtTheLastPlaceAndBehindIt(t *testing.T) {
	for _, room := range earRooms() {
		for got := 0; got < room; got++ {
			e := earWith(300, room, got, nil)
			free := room - got
			all := mixedBytes(room, 70)
			want := impl.Ear{Next: 300 + free, Room: room, Got: joined(e.Got, all[:free])}
			for many := free; many <= 70; many++ {
				earHearIs(t, e, 300, all[:many], want)
			}
			last := e
			last.Far = []impl.Early{{At: 300 + free - 1, B: all[0]}}
			if free > 1 {
				for many := 1; many <= 70; many++ {
					earHearIs(t, e, 300+free-1, all[:many], last)
				}
			}
			for many := 0; many <= 70; many++ {
				earHearIs(t, e, 300+free, all[:many], e)
			}
		}
	}
}

func TestP41WhatCameFirstCounts(t *testing.T) {
	e := impl.Ear{Next: 5, Room: 6, Far: farAt(7, 9)}
	earHearIs(t, e, 7, []byte("a"), e)
	earHearIs(t, e, 7, []byte("z"), e)
	earHearIs(t, e, 9, []byte("b"), e)
	earHearIs(t, e, 9, []byte("zz"), impl.Ear{Next: 5, Room: 6, Far: []impl.Early{{At: 7, B: 'a'}, {At: 9, B: 'b'}, {At: 10, B: 'z'}}})
	earHearIs(t, e, 6, []byte("xyzw"), impl.Ear{Next: 5, Room: 6, Far: []impl.Early{{At: 6, B: 'x'}, {At: 7, B: 'a'}, {At: 8, B: 'z'}, {At: 9, B: 'b'}}})
	earHearIs(t, e, 5, []byte("vwxyzu"), impl.Ear{Next: 11, Room: 6, Got: []byte("vwaybu")})
	// Of what is to be read nothing is turned, either.
	e = impl.Ear{Next: 5, Room: 6, Got: []byte("ab")}
	earHearIs(t, e, 3, []byte("zyxw"), impl.Ear{Next: 7, Room: 6, Got: []byte("abxw")})
}

func TestP41AGapIsFilled(t *testing.T) {
	e := impl.Ear{Next: 5, Room: 8, Got: []byte("x"), Far: farAt(6, 7, 9, 11)}
	earHearIs(t, e, 5, []byte("z"), impl.Ear{Next: 8, Room: 8, Got: []byte("xzab"), Far: []impl.Early{{At: 9, B: 'c'}, {At: 11, B: 'd'}}})
	earHearIs(t, e, 4, []byte("-zzzy"), impl.Ear{Next: 10, Room: 8, Got: []byte("xzabyc"), Far: []impl.Early{{At: 11, B: 'd'}}})
	earHearIs(t, e, 10, []byte("z"), impl.Ear{Next: 5, Room: 8, Got: []byte("x"), Far: []impl.Early{{At: 6, B: 'a'}, {At: 7, B: 'b'}, {At: 9, B: 'c'}, {At: 10, B: 'z'}, {At: 11, B: 'd'}}})
	for room := 2; room <= 32; room++ {
		for got := 0; got < room; got++ {
			e = earWith(300, room, got, stepsBetween(1, room-got, 1))
			filled := impl.EarHear(e, 300, []byte("z"))
			if filled.Next != 300+room-got || len(filled.Got) != room || filled.Got[got] != 'z' || len(filled.Far) != 0 {
				t.Fatal(e, filled)
			}
		}
	}
}

func TestP41NoBytesTurnNothing(t *testing.T) {
	for _, e := range sampleEars() {
		for _, at := range toldPlaces(e) {
			earHearIs(t, e, at, nil, e)
			earHearIs(t, e, at, []byte{}, e)
		}
	}
}

func TestP41RoomForOneAndForAll(t *testing.T) {
	e := impl.Ear{Next: 5, Room: 1}
	earHearIs(t, e, 5, []byte("abc"), impl.Ear{Next: 6, Room: 1, Got: []byte("a")})
	earHearIs(t, e, 6, []byte("abc"), e)
	earHearIs(t, e, 4, []byte("abc"), impl.Ear{Next: 6, Room: 1, Got: []byte("b")})
	earHearIs(t, impl.Ear{Next: 6, Room: 1, Got: []byte("a")}, 6, []byte("b"), impl.Ear{Next: 6, Room: 1, Got: []byte("a")})
	all := mixedBytes(1, 40)
	e = impl.Ear{Next: 5, Room: 32}
	earHearIs(t, e, 5, all, impl.Ear{Next: 37, Room: 32, Got: all[:32]})
	far := impl.EarHear(e, 6, all)
	if far.Next != 5 || len(far.Far) != 31 || far.Far[0] != (impl.Early{At: 6, B: all[0]}) || far.Far[30] != (impl.Early{At: 36, B: all[30]}) {
		t.Fatal(far)
	}
}

func TestP41TheLastPlaces(t *testing.T) {
	e := impl.Ear{Next: 999998, Room: 6}
	earHearIs(t, e, 999998, []byte("a"), impl.Ear{Next: 999999, Room: 6, Got: []byte("a")})
	earHearIs(t, e, 999998, []byte("ab"), impl.Ear{Next: 1000000, Room: 6, Got: []byte("ab")})
	hearsNothing(t, e, 999998, []byte("abc"))
	hearsNothing(t, e, 999998, []byte("abcdefgh"))
	hearsNothing(t, e, 999997, []byte("-abc"))
	// Early bytes may be kept there, but cannot be read.
	early := impl.Ear{Next: 999998, Room: 6, Far: farAt(999999, 1000000, 1000001)}
	earHearIs(t, e, 999999, []byte("abc"), early)
	hearsNothing(t, early, 999998, []byte("z"))
	earHearIs(t, early, 999999, []byte("z"), early)
	early = impl.Ear{Next: 999998, Room: 6, Far: farAt(1000000)}
	earHearIs(t, early, 999998, []byte("z"), impl.Ear{Next: 999999, Room: 6, Got: []byte("z"), Far: farAt(1000000)})
	hearsNothing(t, early, 999998, []byte("zy"))
	e = impl.Ear{Next: 1000000, Room: 6, Got: []byte("x"), Far: farAt(1000001)}
	hearsNothing(t, e, 1000000, []byte("z"))
	earHearIs(t, e, 1000000, nil, e)
	earHearIs(t, e, 999999, []byte("z"), e)
	// Who has no room takes none, so nothing is above it.
	full := impl.Ear{Next: 1000000, Room: 3, Got: []byte("xyz")}
	earHearIs(t, full, 1000000, []byte("z"), full)
	short := impl.Ear{Next: 999999, Room: 3, Got: []byte("xy")}
	earHearIs(t, short, 999999, []byte("zzz"), impl.Ear{Next: 1000000, Room: 3, Got: []byte("xyz")})
	earHearIs(t, impl.Ear{Next: 0, Room: 6}, 0, []byte("ab"), impl.Ear{Next: 2, Room: 6, Got: []byte("ab")})
	earHearIs(t, impl.Ear{Next: 0, Room: 6}, 1000000, []byte("ab"), impl.Ear{Next: 0, Room: 6})
}

func TestP41WhatIsToBeReadStays(t *testing.T) {
	for _, e := range sampleEars() {
		for _, at := range toldPlaces(e) {
			for _, data := range someTold(at % 7) {
				got := impl.EarHear(e, at, data)
				earHearIs(t, e, at, data, earHeardAsDefined(e, at, data))
				earHearIs(t, got, at, data, got)
				if got.Next != 0 || got.Room != 0 {
					goesOnFrom(t, e, got)
				}
			}
		}
	}
}

// goesOnFrom fails unless an ear is ok, waits for no lesser place than one ahead of it did, and has to be read what that one had, and as much more as it waits further on.
func goesOnFrom(t *testing.T, e impl.Ear, later impl.Ear) {
	t.Helper()
	more := later.Next - e.Next
	if !impl.EarOk(later) || more < 0 || len(later.Got) != len(e.Got)+more || !sameBytes(later.Got[:len(e.Got)], e.Got) {
		t.Fatal(e, later)
	}
	for _, f := range e.Far {
		if f.At >= later.Next && !isEarly(later, f.At) {
			t.Fatal("an early byte is gone", e, later)
		}
	}
}

func TestP41MixedEars(t *testing.T) {
	for seed := 0; seed < 20000; seed++ {
		e := mixedEar(seed)
		b := mixedBytes(seed+5, 2)
		at := e.Next + int(b[0])%50 - 15
		if at < 0 || at > 1000000 {
			continue
		}
		data := mixedBytes(seed+6, int(b[1])%45)
		got := impl.EarHear(e, at, data)
		earHearIs(t, e, at, data, earHeardAsDefined(e, at, data))
		earHearIs(t, got, at, data, got)
	}
}

func TestP41OtherPlacesAreNotHeard(t *testing.T) {
	for _, e := range sampleEars() {
		for _, at := range []int{-1, 1000001} {
			hearsNothing(t, e, at, nil)
			hearsNothing(t, e, at, mixedBytes(2, 50))
		}
	}
	for _, at := range noPlaces() {
		hearsNothing(t, impl.Ear{Next: 0, Room: 6}, at, mixedBytes(2, 50))
		hearsNothing(t, impl.Ear{Next: 1000000, Room: 6}, at, []byte("a"))
		hearsNothing(t, impl.Ear{Next: 5, Room: 6, Got: []byte("ab"), Far: farAt(7)}, at, nil)
	}
}

func TestP41InvalidEarsHearNothing(t *testing.T) {
	for _, e := range badEars() {
		for _, at := range []int{-1, 0, 4, 5, 6, 8, 1000000, 1000001} {
			hearsNothing(t, e, at, nil)
			hearsNothing(t, e, at, []byte("abc"))
		}
	}
}

func TestP42KnownReads(t *testing.T) {
	e := impl.Ear{Next: 5, Room: 6, Got: []byte("abcd"), Far: farAt(6)}
	earReadIs(t, e, 0, e, nil)
	earReadIs(t, e, 1, impl.Ear{Next: 5, Room: 6, Got: []byte("bcd"), Far: farAt(6)}, []byte("a"))
	earReadIs(t, e, 3, impl.Ear{Next: 5, Room: 6, Got: []byte("d"), Far: farAt(6)}, []byte("abc"))
	earReadIs(t, e, 4, impl.Ear{Next: 5, Room: 6, Far: farAt(6)}, []byte("abcd"))
	earReadIs(t, e, 5, impl.Ear{Next: 5, Room: 6, Far: farAt(6)}, []byte("abcd"))
	earReadIs(t, e, greatest, impl.Ear{Next: 5, Room: 6, Far: farAt(6)}, []byte("abcd"))
	e = impl.Ear{Next: 1000000, Room: 32}
	earReadIs(t, e, 0, e, nil)
	earReadIs(t, e, 1, e, nil)
	earReadIs(t, e, greatest, e, nil)
}

func TestP42BytesAreReadInOrder(t *testing.T) {
	for _, e := range append(sampleEars(), mixedEar(1), mixedEar(2), mixedEar(3)) {
		for many := 0; many <= 35; many++ {
			read := many
			if read > len(e.Got) {
				read = len(e.Got)
			}
			want := impl.Ear{Next: e.Next, Room: e.Room, Got: e.Got[read:], Far: e.Far}
			earReadIs(t, e, many, want, e.Got[:read])
			earOkIs(t, want, true)
		}
	}
}

func TestP42ReadByTurnsItIsTheSame(t *testing.T) {
	for seed := 0; seed < 500; seed++ {
		e := mixedEar(seed)
		want := e.Got
		all := []byte{}
		for _, many := range []int{1, 0, 2, 3, seed % 9, 40} {
			left, b := impl.EarRead(e, many)
			if !impl.EarOk(left) || left.Next != e.Next || !sameFar(left.Far, e.Far) || !sameBytes(joined(b, left.Got), e.Got) {
				t.Fatal(e, many, left, b)
			}
			all = append(all, b...)
			e = left
		}
		if !sameBytes(all, want) || len(e.Got) != 0 {
			t.Fatal(seed, all, want)
		}
	}
}

func TestP42LessThanNothingIsNotRead(t *testing.T) {
	for _, e := range sampleEars() {
		for _, many := range []int{least, -33, -32, -2, -1} {
			earReadIs(t, e, many, impl.Ear{}, nil)
		}
	}
}

func TestP42OfInvalidEarsNothingIsRead(t *testing.T) {
	for _, e := range badEars() {
		for _, many := range []int{least, -1, 0, 1, 2, 32, greatest} {
			earReadIs(t, e, many, impl.Ear{}, nil)
		}
	}
}

func TestP43KnownPieces(t *testing.T) {
	e := impl.Ear{Next: 100, Room: 8}
	all := []byte{}
	for _, c := range []struct {
		at   int
		data string
		many int
	}{
		{104, "o, w", 3}, {100, "he", 0}, {101, "ell", 1}, {100, "hell", 2}, {108, "orld", 2}, {106, " w", 8}, {107, "worl", 9}, {111, "d", 9},
	} {
		e = impl.EarHear(e, c.at, []byte(c.data))
		left, b := impl.EarRead(e, c.many)
		e = left
		all = append(all, b...)
	}
	if string(all) != "hello, world" || e.Next != 112 {
		t.Fatal(string(all), e)
	}
}

// piecesAreRead tells pieces of a stream, which begins at a place, to an ear, in an order that the seed tells, and reads some bytes after each; it fails unless what was read is a beginning of the stream. It returns the ear and what was read.
func piecesAreRead(t *testing.T, seed int, e impl.Ear, stream []byte, many int) (impl.Ear, []byte) {
	t.Helper()
	begin := e.Next
	all := []byte{}
	b := mixedBytes(seed, 4*many)
	for i := 0; i < many; i++ {
		at := int(b[4*i]) * (len(stream) + 1) / 256
		// Half of them begin near the place for which the ear waits, so that the stream goes on.
		if b[4*i+1]%2 == 0 {
			at = e.Next - begin + int(b[4*i])%9 - 4
		}
		if at < 0 || at > len(stream) {
			continue
		}
		to := at + int(b[4*i+2])%13
		if to > len(stream) {
			to = len(stream)
		}
		e = impl.EarHear(e, begin+at, stream[at:to])
		left, read := impl.EarRead(e, int(b[4*i+3])%6)
		e = left
		all = append(all, read...)
		if !impl.EarOk(e) || e.Next != begin+len(all)+len(e.Got) || !sameBytes(joined(all, e.Got), stream[:e.Next-begin]) {
			t.Fatal(seed, e, all)
		}
	}
	return e, all
}

func TestP43WhatIsReadIsTheStream(t *testing.T) {
	full := 0
	for seed := 0; seed < 400; seed++ {
		stream := mixedBytes(seed, 90+seed%7)
		for _, begin := range []int{0, 1, 300, 65500, 1000000 - len(stream)} {
			for _, room := range earRooms() {
				e, all := piecesAreRead(t, seed+room, impl.Ear{Next: begin, Room: room}, stream, 60)
				if len(all) == len(stream) {
					full++
				}
				restIsRead(t, e, begin, stream, all)
			}
		}
	}
	// Some were read as a whole ahead of the end, so the pieces went far enough.
	if full == 0 {
		t.Fatal("no stream was read as a whole")
	}
}

// restIsRead tells all of a stream that an ear waits for, till it has read all of it, and fails unless it was the stream.
func restIsRead(t *testing.T, e impl.Ear, begin int, stream []byte, all []byte) {
	t.Helper()
	for turn := 0; turn <= len(stream); turn++ {
		left, read := impl.EarRead(impl.EarHear(e, begin, stream), 32)
		e = left
		all = append(all, read...)
	}
	if !sameBytes(all, stream) || e.Next != begin+len(stream) || len(e.Got) != 0 || len(e.Far) != 0 {
		t.Fatal(e, begin, stream, all)
	}
}

func TestP43EachOrderOfPieces(t *testing.T) {
	stream := []byte("abcdefgh")
	// Pieces that overlap, of which the first two are the stream, and the last one is all of it.
	spans := [][2]int{{0, 3}, {2, 8}, {1, 6}, {5, 8}, {0, 1}, {0, 8}}
	for seed := 0; seed < 500; seed++ {
		for _, room := range []int{8, 9, 32} {
			e := impl.Ear{Next: 40, Room: room}
			all := []byte{}
			for i, k := range mixedBytes(seed, 40) {
				span := spans[int(k)%5]
				e = impl.EarHear(e, 40+span[0], stream[span[0]:span[1]])
				left, b := impl.EarRead(e, (i+seed)%3)
				e = left
				all = append(all, b...)
				if !sameBytes(joined(all, e.Got), stream[:len(all)+len(e.Got)]) {
					t.Fatal(seed, all, e)
				}
			}
			// With room for all of it nothing has to come again.
			if got := joined(all, e.Got); len(e.Far) != 0 || !sameBytes(got, stream) {
				t.Fatal(seed, room, got, e)
			}
		}
	}
}

func TestP120KnownRanges(t *testing.T) {
	earRangesAre(t, impl.Ear{Next: 5, Room: 8}, nil)
	earRangesAre(t, impl.Ear{Next: 5, Room: 8, Got: []byte("ab")}, nil)
	earRangesAre(t, impl.Ear{Next: 5, Room: 8, Far: farAt(6)}, []impl.Range{{From: 6, To: 7}})
	earRangesAre(t, impl.Ear{Next: 5, Room: 8, Far: farAt(12)}, []impl.Range{{From: 12, To: 13}})
	earRangesAre(t, impl.Ear{Next: 5, Room: 8, Far: farAt(6, 7, 8, 9, 10, 11, 12)}, []impl.Range{{From: 6, To: 13}})
	earRangesAre(t, impl.Ear{Next: 5, Room: 8, Far: farAt(6, 8)}, []impl.Range{{From: 6, To: 7}, {From: 8, To: 9}})
	earRangesAre(t, impl.Ear{Next: 5, Room: 8, Far: farAt(6, 7, 10, 11, 12)}, []impl.Range{{From: 6, To: 8}, {From: 10, To: 13}})
	earRangesAre(t, impl.Ear{Next: 5, Room: 8, Far: farAt(6, 8, 10)}, []impl.Range{{From: 6, To: 7}, {From: 8, To: 9}})
	earRangesAre(t, impl.Ear{Next: 5, Room: 8, Far: farAt(6, 8, 9, 11, 12)}, []impl.Range{{From: 6, To: 7}, {From: 8, To: 10}})
	earRangesAre(t, impl.Ear{Next: 5, Room: 8, Far: farAt(6, 8, 10, 12)}, []impl.Range{{From: 6, To: 7}, {From: 8, To: 9}})
	// They are places, and not numbers of places.
	earRangesAre(t, impl.Ear{Next: 65533, Room: 8, Far: farAt(65535, 65536, 65538)}, []impl.Range{{From: 65535, To: 65537}, {From: 65538, To: 65539}})
	earRangesAre(t, impl.Ear{Next: 1000000, Room: 8, Far: farAt(1000001, 1000002)}, []impl.Range{{From: 1000001, To: 1000003}})
}

// tellWhatCameEarly fails unless ranges are those of early bytes of an ear, in order and with gaps between them, each as long as can be, and all there are, or two.
func tellWhatCameEarly(t *testing.T, e impl.Ear, ranges []impl.Range) {
	t.Helper()
	told := 0
	behind := e.Next
	for _, r := range ranges {
		if r.From <= behind || r.To <= r.From || isEarly(e, r.From-1) || isEarly(e, r.To) {
			t.Fatal(e, ranges)
		}
		for place := r.From; place < r.To; place++ {
			if !isEarly(e, place) {
				t.Fatal(e, ranges, place)
			}
		}
		told += r.To - r.From
		behind = r.To
	}
	if len(ranges) > 2 || (len(ranges) == 0) != (len(e.Far) == 0) || (len(ranges) < 2 && told != len(e.Far)) {
		t.Fatal(e, ranges)
	}
}

func TestP120RangesTellWhatCameEarly(t *testing.T) {
	for _, e := range sampleEars() {
		tellWhatCameEarly(t, e, impl.EarRanges(e))
		earRangesAre(t, e, earRangesAsDefined(e))
	}
	for seed := 0; seed < 20000; seed++ {
		e := mixedEar(seed)
		tellWhatCameEarly(t, e, impl.EarRanges(e))
		earRangesAre(t, e, earRangesAsDefined(e))
	}
}

func TestP120AllEarlyBytesOfAShortEar(t *testing.T) {
	for room := 1; room <= 9; room++ {
		for set := 0; set < 1<<(room-1); set++ {
			e := impl.Ear{Next: 300, Room: room}
			for step := 1; step < room; step++ {
				if set>>(step-1)%2 == 1 {
					e.Far = append(e.Far, impl.Early{At: 300 + step, B: byte(step)})
				}
			}
			tellWhatCameEarly(t, e, impl.EarRanges(e))
			earRangesAre(t, e, earRangesAsDefined(e))
		}
	}
}

func TestP120OfInvalidEarsNothingIsTold(t *testing.T) {
	for _, e := range badEars() {
		earRangesAre(t, e, nil)
	}
}

// earCopied returns an ear in new memory, with room behind each list that is filled. earSpoiled turns all that there is in an ear, and fills the room behind each list.
func earCopied(e impl.Ear) impl.Ear {
	far := append([]impl.Early{}, e.Far...)
	e.Far = append(far, impl.Early{At: 99}, impl.Early{At: 99}, impl.Early{At: 99})[:len(e.Far)]
	e.Got = joined(e.Got, filledBytes(9, 80))[:len(e.Got)]
	return e
}

func earSpoiled(e impl.Ear) {
	for i := range e.Far {
		e.Far[i] = impl.Early{At: 77, B: 77}
	}
	for i := 0; i < 40; i++ {
		e.Far = append(e.Far, impl.Early{At: 77, B: 77})
	}
	bytesSpoiled(e.Got)
}

// earIsKept fails if an ear that was handed in (earCopied) was written, or the room behind it.
func earIsKept(t *testing.T, given impl.Ear, e impl.Ear) {
	t.Helper()
	if !sameEar(given, e) {
		t.Fatal("the ear was written", e, given)
	}
	for _, f := range given.Far[:len(e.Far)+3][len(e.Far):] {
		if f != (impl.Early{At: 99}) {
			t.Fatal("behind the early bytes", e)
		}
	}
	if !sameBytes(given.Got[:len(e.Got)+80][len(e.Got):], filledBytes(9, 80)) {
		t.Fatal("behind the bytes that are to be read", e)
	}
}

func TestChapter12WritesNoArguments(t *testing.T) {
	for _, e := range append(sampleEars(), badEars()...) {
		given := earCopied(e)
		impl.EarOk(given)
		impl.EarFree(given)
		impl.EarRanges(given)
		room := joined([]byte("abc"), filledBytes(9, 80))
		for _, at := range []int{-1, 0, e.Next, e.Next + 1, e.Next + 2} {
			impl.EarHear(given, at, room[:3])
		}
		for _, many := range []int{-1, 0, 1, 40} {
			impl.EarRead(given, many)
		}
		earIsKept(t, given, e)
		if !sameBytes(room, joined([]byte("abc"), filledBytes(9, 80))) {
			t.Fatal("the bytes were written", e, room)
		}
	}
}

func TestChapter12EarsThatHearAreNewMemory(t *testing.T) {
	for _, e := range sampleEars() {
		for _, many := range []int{0, 1, 3, 40} {
			at := e.Next
			if many == 3 && at < 1000000 {
				at++
			}
			told := mixedBytes(many, many)
			given, room := earCopied(e), joined(told, filledBytes(9, 80))
			got := impl.EarHear(given, at, room[:many])
			earSpoiled(given)
			bytesSpoiled(room)
			if !sameEar(got, earHeardAsDefined(e, at, told)) {
				t.Fatal("the answer has memory of what was handed in", e, at, many, got)
			}
			given, room = earCopied(e), joined(told, filledBytes(9, 80))
			earSpoiled(impl.EarHear(given, at, room[:many]))
			earIsKept(t, given, e)
			if !sameBytes(room, joined(told, filledBytes(9, 80))) {
				t.Fatal("the bytes have memory of the answer", e, at, many)
			}
		}
	}
}

func TestChapter12EarsThatAreReadAreNewMemory(t *testing.T) {
	for _, e := range sampleEars() {
		for _, many := range []int{0, 1, len(e.Got) / 2, len(e.Got), 40} {
			given := earCopied(e)
			got, b := impl.EarRead(given, many)
			want, read := earCopied(got), copied(b)
			earSpoiled(given)
			if !sameEar(got, want) || !sameBytes(b, read) {
				t.Fatal("the answer has memory of what was handed in", e, many, got, b)
			}
			given = earCopied(e)
			got, b = impl.EarRead(given, many)
			bytesSpoiled(b)
			if !sameEar(got, want) {
				t.Fatal("the ear has memory of the bytes", e, many, got)
			}
			got, b = impl.EarRead(given, many)
			earSpoiled(got)
			if !sameBytes(b, read) {
				t.Fatal("the bytes have memory of the ear", e, many, b)
			}
			earIsKept(t, given, e)
		}
	}
}

func TestChapter12RangesAreNewMemory(t *testing.T) {
	for _, e := range sampleEars() {
		given := earCopied(e)
		got := impl.EarRanges(given)
		earSpoiled(given)
		earRangesAreLike(t, e, got)
		given = earCopied(e)
		got = impl.EarRanges(given)
		for i := range got {
			got[i] = impl.Range{From: 77, To: 77}
		}
		earIsKept(t, given, e)
		earRangesAre(t, given, earRangesAsDefined(e))
	}
}

// earRangesAreLike fails unless ranges are those of an ear by their definition.
func earRangesAreLike(t *testing.T, e impl.Ear, got []impl.Range) {
	t.Helper()
	if !sameRanges(got, earRangesAsDefined(e)) {
		t.Fatal("the ranges have memory of the ear", e, got)
	}
}
