package tests

import (
	"testing"

	"loop.example/netstack/impl"
)

// seqEdges returns numbers in 0..65535: both ends, half a round, what is next to these, and some between.
func seqEdges() []int {
	return []int{0, 1, 2, 4, 7, 255, 256, 16383, 16384, 32766, 32767, 32768, 32769, 49151, 49152, 65279, 65530, 65533, 65534, 65535}
}

// noSeqs returns numbers that are none of places, also such as are near one that is, rounds away.
func noSeqs() []int {
	return []int{least, least + 1, -1000000, -131072, -65537, -65536, -65535, -32769, -32768, -32767, -2, -1, 65536, 65537, 65541, 98303, 98304, 98305, 131071, 131072, 1000000, 1000001, greatest - 1, greatest}
}

// placeEdges returns places in 0..1000000: both ends, the ends of rounds and their middles, what is next to these, and some between.
func placeEdges() []int {
	out := []int{0, 1, 2, 3, 255, 256, 999998, 999999, 1000000, 1000000 - 32767, 1000000 - 32768, 1000000 - 65536}
	for half := 32768; half < 1000000; half += 32768 {
		out = append(out, half-1, half, half+1)
	}
	for seed := 0; seed < 20; seed++ {
		out = append(out, mixedPlace(seed))
	}
	return out
}

// noPlaces returns numbers that are no places to be near to.
func noPlaces() []int {
	return []int{least, least + 1, least + 32768, -1000000, -65537, -65536, -65535, -32769, -32768, -32767, -2, -1, 1000001, 1000002, 1032767, 1032768, 1065536, 2000000, greatest - 32768, greatest - 1, greatest}
}

// farPlaces returns numbers of all sizes of which there is a number, so far from the ends of int that one can go on some rounds from them.
func farPlaces() []int {
	out := joinedInts(placeEdges(), []int{least + 2000000, least + 2032768, greatest - 2000000, greatest - 2065535, 1 << 30, -(1 << 30)})
	for _, place := range placeEdges() {
		out = append(out, -place, 1000000+place)
	}
	return out
}

// mixedPlace returns a place in 0..1000000, the same one for the same seed.
func mixedPlace(seed int) int {
	b := mixedBytes(seed, 3)
	return (int(b[0])*65536 + int(b[1])*256 + int(b[2])) % 1000001
}

// joinedInts returns the numbers of a and those of b behind them, in new memory.
func joinedInts(a []int, b []int) []int {
	out := make([]int, 0, len(a)+len(b))
	out = append(out, a...)
	return append(out, b...)
}

// seqAsDefined returns the number of a place without dividing: 65536 is 2^16, so what is left over is the last 16 bits.
func seqAsDefined(place int) int {
	return int(uint16(place))
}

// seqIs fails unless a place has the number want.
func seqIs(t *testing.T, place int, want int) {
	t.Helper()
	if got := impl.SeqOf(place); got != want {
		t.Fatal(place, got, want)
	}
}

// aheadIs fails unless SeqLess tells what is wanted of two numbers.
func aheadIs(t *testing.T, a int, b int, want bool) {
	t.Helper()
	if got := impl.SeqLess(a, b); got != want {
		t.Fatal(a, b, got)
	}
}

// comesFirst fails unless a comes ahead of b, and b not ahead of a.
func comesFirst(t *testing.T, a int, b int) {
	t.Helper()
	aheadIs(t, a, b, true)
	aheadIs(t, b, a, false)
}

// noneComesFirst fails if a comes ahead of b, or b ahead of a.
func noneComesFirst(t *testing.T, a int, b int) {
	t.Helper()
	aheadIs(t, a, b, false)
	aheadIs(t, b, a, false)
}

// placeIs fails unless near a place a number stands for the place want.
func placeIs(t *testing.T, near int, seq int, want int) {
	t.Helper()
	if got := impl.SeqPlace(near, seq); got != want {
		t.Fatal(near, seq, got, want)
	}
}

func TestP115KnownNumbersOfPlaces(t *testing.T) {
	for _, c := range [][2]int{
		{0, 0}, {1, 1}, {2, 2}, {32767, 32767}, {32768, 32768}, {32769, 32769},
		{65534, 65534}, {65535, 65535}, {65536, 0}, {65537, 1}, {65540, 4},
		{131071, 65535}, {131072, 0}, {131073, 1}, {196608, 0}, {655360, 0}, {655365, 5},
		{999999, 16959}, {1000000, 16960}, {1000001, 16961},
	} {
		seqIs(t, c[0], c[1])
	}
}

func TestP115PlacesBelowNothing(t *testing.T) {
	for _, c := range [][2]int{
		{-1, 65535}, {-2, 65534}, {-32767, 32769}, {-32768, 32768}, {-32769, 32767},
		{-65535, 1}, {-65536, 0}, {-65537, 65535}, {-131071, 1}, {-131072, 0}, {-131073, 65535}, {-1000000, 48576},
	} {
		seqIs(t, c[0], c[1])
	}
}

func TestP115TheGreatestAndTheLeast(t *testing.T) {
	// The ends of int are the ends of rounds, too.
	seqIs(t, greatest, 65535)
	seqIs(t, greatest-1, 65534)
	seqIs(t, greatest-65535, 0)
	seqIs(t, greatest-65536, 65535)
	seqIs(t, least, 0)
	seqIs(t, least+1, 1)
	seqIs(t, least+65535, 65535)
	seqIs(t, least+65536, 0)
}

func TestP115RoundsAreAsLongAsDefined(t *testing.T) {
	if impl.SeqRound != 65536 {
		t.Fatal(impl.SeqRound)
	}
	want := 0
	for place := -3 * 65536; place <= 1100000; place++ {
		seqIs(t, place, want)
		want++
		if want == 65536 {
			want = 0
		}
	}
}

func TestP115NumbersAreInRange(t *testing.T) {
	for _, place := range joinedInts(farPlaces(), noSeqs()) {
		if got := impl.SeqOf(place); got < 0 || got > 65535 {
			t.Fatal(place, got)
		}
		seqIs(t, place, seqAsDefined(place))
	}
}

func TestP115ARoundChangesNothing(t *testing.T) {
	for _, place := range farPlaces() {
		for rounds := -20; rounds <= 20; rounds++ {
			seqIs(t, place+rounds*65536, impl.SeqOf(place))
		}
	}
	for _, place := range joinedInts(seqEdges(), []int{least, least + 1, least + 32768}) {
		seqIs(t, place+65536, impl.SeqOf(place))
	}
	for _, place := range []int{greatest, greatest - 1, greatest - 32768} {
		seqIs(t, place-65536, impl.SeqOf(place))
	}
}

func TestP115ANumberIsTheNumberOfItself(t *testing.T) {
	for seq := 0; seq <= 65535; seq++ {
		seqIs(t, seq, seq)
	}
	for _, place := range joinedInts(farPlaces(), noSeqs()) {
		seq := impl.SeqOf(place)
		seqIs(t, seq, seq)
	}
}

func TestP37KnownNumbers(t *testing.T) {
	comesFirst(t, 0, 1)
	comesFirst(t, 7, 9)
	comesFirst(t, 65530, 4)
	comesFirst(t, 65535, 0)
	comesFirst(t, 65535, 1)
	comesFirst(t, 0, 32767)
	comesFirst(t, 1, 32768)
	comesFirst(t, 32768, 65535)
	comesFirst(t, 32769, 0)
	comesFirst(t, 65535, 32766)
	comesFirst(t, 16383, 49150)
	noneComesFirst(t, 0, 0)
	noneComesFirst(t, 7, 7)
	noneComesFirst(t, 65535, 65535)
	noneComesFirst(t, 0, 32768)
	noneComesFirst(t, 1, 32769)
	noneComesFirst(t, 32767, 65535)
}

func TestP37GoingOnReachesTheOther(t *testing.T) {
	for _, a := range seqEdges() {
		b := a
		for steps := 0; steps < 65536; steps++ {
			aheadIs(t, a, b, steps >= 1 && steps <= 32767)
			b++
			if b == 65536 {
				b = 0
			}
		}
		if b != a {
			t.Fatal("a round does not end where it begins", a, b)
		}
	}
}

func TestP37HalfARoundApart(t *testing.T) {
	for a := 0; a <= 65535; a++ {
		noneComesFirst(t, a, a)
		comesFirst(t, a, (a+1)%65536)
		comesFirst(t, a, (a+32767)%65536)
		noneComesFirst(t, a, (a+32768)%65536)
		comesFirst(t, (a+32769)%65536, a)
		comesFirst(t, (a+65535)%65536, a)
	}
}

func TestP37OfTwoThatAreNearOneComesFirst(t *testing.T) {
	all := joinedInts(farPlaces(), noSeqs())
	for _, a := range all {
		for _, b := range all {
			ahead, behind := impl.SeqLess(a, b), impl.SeqLess(b, a)
			if ahead && behind {
				t.Fatal("both come ahead of each other", a, b)
			}
			apart := seqAsDefined(seqAsDefined(b) - seqAsDefined(a))
			if want := apart != 0 && apart != 32768; (ahead || behind) != want {
				t.Fatal("one comes first", a, b, ahead, behind)
			}
			if want := apart >= 1 && apart <= 32767; ahead != want {
				t.Fatal(a, b, ahead)
			}
		}
	}
}

func TestP37MovedOnByAsMuchBothStaySo(t *testing.T) {
	for _, a := range seqEdges() {
		for _, b := range seqEdges() {
			for _, by := range []int{1, 2, 5, 32767, 32768, 32769, 65535, 65536, 65537, 131072, 1000000, -1, -7, -32768, -65535, -65536, -1000000} {
				aheadIs(t, a+by, b+by, impl.SeqLess(a, b))
				aheadIs(t, seqAsDefined(a+by), seqAsDefined(b+by), impl.SeqLess(a, b))
			}
		}
	}
}

func TestP37RoundsOfOneDoNotCount(t *testing.T) {
	for _, a := range seqEdges() {
		for _, b := range seqEdges() {
			for rounds := -16; rounds <= 16; rounds++ {
				aheadIs(t, a+rounds*65536, b, impl.SeqLess(a, b))
				aheadIs(t, a, b+rounds*65536, impl.SeqLess(a, b))
				aheadIs(t, a-rounds*65536, b+3*rounds*65536, impl.SeqLess(a, b))
			}
		}
	}
}

func TestP37NumbersOutOfRangeAreTakenAsNumbers(t *testing.T) {
	comesFirst(t, -1, 0)
	comesFirst(t, -1, 65536)
	comesFirst(t, 65535, 65536)
	comesFirst(t, 65536, 1)
	comesFirst(t, 0, 65537)
	comesFirst(t, 1, 98304)
	comesFirst(t, 65534, -1)
	comesFirst(t, -32767, 0)
	noneComesFirst(t, -32768, 0)
	noneComesFirst(t, -1, 65535)
	noneComesFirst(t, 0, 65536)
	noneComesFirst(t, 65536, 131072)
	noneComesFirst(t, 0, 98304)
	for _, a := range joinedInts(noSeqs(), noPlaces()) {
		for _, b := range joinedInts(noSeqs(), seqEdges()) {
			aheadIs(t, a, b, impl.SeqLess(seqAsDefined(a), seqAsDefined(b)))
			aheadIs(t, b, a, impl.SeqLess(seqAsDefined(b), seqAsDefined(a)))
		}
	}
}

func TestP37TheGreatestAndTheLeast(t *testing.T) {
	comesFirst(t, greatest, least)
	comesFirst(t, greatest, 0)
	comesFirst(t, greatest-1, greatest)
	comesFirst(t, greatest, 32766)
	comesFirst(t, greatest-32767, greatest)
	comesFirst(t, least, least+1)
	comesFirst(t, least, 32767)
	comesFirst(t, -1, least)
	noneComesFirst(t, greatest, greatest)
	noneComesFirst(t, least, least)
	noneComesFirst(t, least, 0)
	noneComesFirst(t, greatest, -1)
	noneComesFirst(t, greatest, 32767)
	noneComesFirst(t, least, 32768)
}

func TestP38KnownPlaces(t *testing.T) {
	placeIs(t, 0, 0, 0)
	placeIs(t, 0, 1, 1)
	placeIs(t, 1, 0, 0)
	placeIs(t, 65540, 65530, 65530)
	placeIs(t, 65530, 4, 65540)
	placeIs(t, 65535, 0, 65536)
	placeIs(t, 65536, 65535, 65535)
	placeIs(t, 65536, 0, 65536)
	placeIs(t, 131072, 65535, 131071)
	placeIs(t, 131071, 1, 131073)
	placeIs(t, 500000, 41248, 500000)
	placeIs(t, 1000000, 16960, 1000000)
	placeIs(t, 1000000, 16961, 1000001)
	placeIs(t, 1000000, 16959, 999999)
}

func TestP38HalfARoundAheadAndBehind(t *testing.T) {
	for _, near := range placeEdges() {
		placeIs(t, near, seqAsDefined(near+32766), near+32766)
		placeIs(t, near, seqAsDefined(near+32767), near+32767)
		// Half a round ahead stands the same number as half a round behind, and that place counts.
		placeIs(t, near, seqAsDefined(near+32768), near-32768)
		placeIs(t, near, seqAsDefined(near-32768), near-32768)
		placeIs(t, near, seqAsDefined(near+32769), near-32767)
		placeIs(t, near, seqAsDefined(near-32767), near-32767)
		placeIs(t, near, seqAsDefined(near-32769), near+32767)
	}
}

func TestP38PlacesBelowNothing(t *testing.T) {
	placeIs(t, 0, 65535, -1)
	placeIs(t, 2, 65535, -1)
	placeIs(t, 0, 32768, -32768)
	placeIs(t, 0, 32769, -32767)
	placeIs(t, 0, 32767, 32767)
	placeIs(t, 1, 32768, 32768)
	placeIs(t, 1, 32769, -32767)
	placeIs(t, 32767, 65535, -1)
	placeIs(t, 32767, 0, 0)
	placeIs(t, 32768, 65535, 65535)
	placeIs(t, 32768, 0, 0)
	placeIs(t, 32769, 0, 65536)
}

func TestP38PlacesAboveTheLastOne(t *testing.T) {
	placeIs(t, 1000000, 49727, 1032767)
	placeIs(t, 1000000, 49728, 967232)
	placeIs(t, 1000000, 65535, 983039)
	placeIs(t, 1000000, 0, 983040)
	placeIs(t, 999999, 16960, 1000000)
}

func TestP38EachNumberStandsForOnePlace(t *testing.T) {
	for _, near := range placeEdges() {
		seq := seqAsDefined(near - 32768)
		for place := near - 32768; place <= near+32767; place++ {
			placeIs(t, near, seq, place)
			seq++
			if seq == 65536 {
				seq = 0
			}
		}
	}
}

func TestP38ThePlaceHasThisNumberAndIsNear(t *testing.T) {
	for seed := 0; seed < 3000; seed++ {
		near, seq := mixedPlace(seed), mixedPlace(seed+3000)%65536
		place := impl.SeqPlace(near, seq)
		if seqAsDefined(place) != seq || impl.SeqOf(place) != seq {
			t.Fatal("another number", near, seq, place)
		}
		if place < near-32768 || place > near+32767 {
			t.Fatal("too far away", near, seq, place)
		}
	}
}

func TestP38APlaceIsFoundFromItsNumber(t *testing.T) {
	for _, near := range placeEdges() {
		for _, away := range []int{0, 1, 2, 9, 255, 16384, 32765, 32766, 32767} {
			placeIs(t, near, impl.SeqOf(near+away), near+away)
			placeIs(t, near, impl.SeqOf(near-away), near-away)
		}
	}
	for seed := 0; seed < 3000; seed++ {
		near := mixedPlace(seed)
		place := near + mixedPlace(seed+3000)%65535 - 32767
		placeIs(t, near, impl.SeqOf(place), place)
	}
}

func TestP38WhatComesBehindIsGreater(t *testing.T) {
	for _, near := range placeEdges() {
		for _, seq := range seqEdges() {
			if got := impl.SeqPlace(near, seq); impl.SeqLess(near, seq) != (got > near) {
				t.Fatal(near, seq, got)
			}
		}
	}
}

func TestP38NearOtherPlacesItIsThePlace(t *testing.T) {
	for _, near := range noPlaces() {
		for _, seq := range joinedInts(seqEdges(), noSeqs()) {
			placeIs(t, near, seq, near)
		}
	}
}

func TestP38OfOtherNumbersItIsThePlace(t *testing.T) {
	for _, near := range placeEdges() {
		for _, seq := range noSeqs() {
			placeIs(t, near, seq, near)
		}
	}
}

func TestP38TheLastPlacesAndNumbersCount(t *testing.T) {
	// One less is in range where one more is not: the place is another one, and itself.
	placeIs(t, 0, 5, 5)
	placeIs(t, -1, 5, -1)
	placeIs(t, 1000000, 5, 983045)
	placeIs(t, 1000001, 5, 1000001)
	placeIs(t, 9, 65535, -1)
	placeIs(t, 9, 65536, 9)
	placeIs(t, 9, 0, 0)
	placeIs(t, 9, -1, 9)
}
