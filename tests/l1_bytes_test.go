package tests

import (
	"testing"

	"loop.example/netstack/impl"
)

// widthRange returns 256^n.
func widthRange(n int) int {
	return 1 << (8 * n)
}

// numbersOf returns numbers in 0..256^n-1: both ends, those around each byte's edge, and some between.
func numbersOf(n int) []int {
	out := []int{0, 1, 127, 128, 254, 255}
	for k := 1; k < n; k++ {
		edge := widthRange(k)
		out = append(out, edge-1, edge, edge+1, 128*edge, 255*edge)
	}
	for seed := 0; seed < 50; seed++ {
		v := 0
		for _, x := range mixedBytes(seed, n) {
			v = v*256 + int(x)
		}
		out = append(out, v)
	}
	return append(out, widthRange(n)-2, widthRange(n)-1)
}

// plainSum returns the sum of bytes by its definition, with one long sum instead of short ones.
func plainSum(b []byte) int {
	total := 0
	for i, x := range b {
		if i%2 == 0 {
			total += 256 * int(x)
		} else {
			total += int(x)
		}
	}
	for total > 65535 {
		total -= 65535
	}
	return 65535 - total
}

// sampleBytes returns bytes of all lengths in 0..24, and such whose sums are 0 or 65535.
func sampleBytes() [][]byte {
	out := [][]byte{
		nil,
		{0}, {0, 0}, {0, 0, 0},
		{255}, {255, 255}, {255, 255, 255}, {255, 255, 255, 255},
		{0, 1, 255, 254}, {255, 254, 0, 1}, {128, 0, 127, 255},
		{255, 255, 0, 1}, {255, 255, 1}, {0, 255, 255},
	}
	for n := 0; n <= 24; n++ {
		out = append(out, mixedBytes(n, n))
	}
	return out
}

// pairNumbers returns numbers of pairs: both ends, what is next to them, and some between.
func pairNumbers() []int {
	return []int{0, 1, 2, 255, 256, 257, 772, 4660, 32767, 32768, 65279, 65280, 65533, 65534, 65535}
}

// noPairs returns numbers that are none of pairs.
func noPairs() []int {
	return []int{least, -65536, -65535, -2, -1, 65536, 65537, 131070, 131071, greatest}
}

// noWidths returns numbers of bytes in which nothing is written.
func noWidths() []int {
	return []int{least, -4, -1, 0, 5, 6, 8, 9, greatest}
}

func TestP1KnownNumbersAsBytes(t *testing.T) {
	if b := impl.BytesOf(300, 2); !sameBytes(b, []byte{1, 44}) {
		t.Fatal(b)
	}
	if b := impl.BytesOf(300, 4); !sameBytes(b, []byte{0, 0, 1, 44}) {
		t.Fatal(b)
	}
	if b := impl.BytesOf(0x010203, 3); !sameBytes(b, []byte{1, 2, 3}) {
		t.Fatal(b)
	}
	if b := impl.BytesOf(0xFFFFFFFF, 4); !sameBytes(b, []byte{255, 255, 255, 255}) {
		t.Fatal(b)
	}
	if b := impl.BytesOf(0, 1); !sameBytes(b, []byte{0}) {
		t.Fatal(b)
	}
}

func TestP1NumbersCanBeReadBack(t *testing.T) {
	ahead := []byte{7, 255, 0, 9, 200}
	for n := 1; n <= 4; n++ {
		for _, v := range numbersOf(n) {
			b := impl.BytesOf(v, n)
			if len(b) != n {
				t.Fatal(v, n, b)
			}
			if got := impl.NumberAt(b, 0, n); got != v {
				t.Fatal(v, n, got)
			}
			if got := impl.NumberAt(joined(ahead, b), len(ahead), n); got != v {
				t.Fatal("behind others", v, n, got)
			}
			if got := impl.NumberAt(joined(b, ahead), 0, n); got != v {
				t.Fatal("ahead of others", v, n, got)
			}
		}
	}
}

func TestP1NumbersThatDoNotFit(t *testing.T) {
	for n := 1; n <= 4; n++ {
		for _, v := range []int{least, -widthRange(n), -256, -1, widthRange(n), widthRange(n) + 1, 2 * widthRange(n), 256 * widthRange(n), greatest} {
			if b := impl.BytesOf(v, n); len(b) != 0 {
				t.Fatal(v, n, b)
			}
		}
	}
	for _, n := range noWidths() {
		for _, v := range []int{least, -1, 0, 1, 300, greatest} {
			if b := impl.BytesOf(v, n); len(b) != 0 {
				t.Fatal(v, n, b)
			}
		}
	}
}

func TestP2KnownBytesAsNumbers(t *testing.T) {
	b := []byte{9, 1, 44, 255}
	if v := impl.NumberAt(b, 1, 2); v != 300 {
		t.Fatal(v)
	}
	if v := impl.NumberAt(b, 3, 1); v != 255 {
		t.Fatal(v)
	}
	if v := impl.NumberAt(b, 0, 3); v != 0x09012C {
		t.Fatal(v)
	}
	if v := impl.NumberAt(b, 0, 4); v != 0x09012CFF {
		t.Fatal(v)
	}
}

func TestP2WhatIsReadCanBeWritten(t *testing.T) {
	for _, b := range sampleBytes() {
		for n := -1; n <= 6; n++ {
			for at := -2; at <= len(b)+2; at++ {
				readsWhatStands(t, b, at, n)
			}
		}
	}
}

// readsWhatStands fails unless NumberAt reads the bytes that stand at a place, and nothing where they are not all there.
func readsWhatStands(t *testing.T, b []byte, at int, n int) {
	t.Helper()
	v := impl.NumberAt(b, at, n)
	there := n >= 1 && n <= 4 && at >= 0 && at+n <= len(b)
	if !there && v != -1 {
		t.Fatal("not there", b, at, n, v)
	}
	if there && !sameBytes(impl.BytesOf(v, n), b[at:at+n]) {
		t.Fatal(b, at, n, v)
	}
}

func TestP2PlacesAndWidthsOutOfRange(t *testing.T) {
	for _, b := range [][]byte{nil, {9}, {1, 2, 3, 4, 5, 6, 7, 8, 9, 10}} {
		for _, at := range []int{least, least + 1, -1, len(b), greatest - 4, greatest - 1, greatest} {
			for n := 1; n <= 4; n++ {
				if v := impl.NumberAt(b, at, n); v != -1 {
					t.Fatal(b, at, n, v)
				}
			}
		}
		for _, n := range noWidths() {
			for _, at := range []int{least, -1, 0, 1, len(b), greatest} {
				if v := impl.NumberAt(b, at, n); v != -1 {
					t.Fatal(b, at, n, v)
				}
			}
		}
	}
}

func TestP3KnownSums(t *testing.T) {
	sumIs(t, []byte{0, 1, 242, 3, 244, 245, 246, 247}, 8717)
	sumIs(t, nil, 65535)
	sumIs(t, []byte{}, 65535)
	sumIs(t, []byte{0, 0, 0}, 65535)
	sumIs(t, []byte{1}, 65535-256)
	sumIs(t, []byte{1, 0}, 65535-256)
	sumIs(t, []byte{0, 1}, 65534)
	sumIs(t, []byte{1, 2, 3}, 65535-258-768)
	sumIs(t, []byte{255}, 255)
	sumIs(t, []byte{255, 255}, 0)
	sumIs(t, []byte{255, 255, 255, 255}, 0)
	sumIs(t, []byte{255, 255, 0, 1}, 65534)
	sumIs(t, []byte{255, 254, 0, 1}, 0)
}

// sumIs fails unless the sum of bytes is want.
func sumIs(t *testing.T, b []byte, want int) {
	t.Helper()
	if got := impl.SumOf(b); got != want {
		t.Fatal(b, got, want)
	}
}

func TestP3SumsAreInRangeAndAsDefined(t *testing.T) {
	for _, b := range sampleBytes() {
		sumIs(t, b, plainSum(b))
		if sum := impl.SumOf(b); sum < 0 || sum > 65535 {
			t.Fatal(b, sum)
		}
	}
	for _, n := range []int{511, 512, 4095, 20000} {
		sumIs(t, mixedBytes(n, n), plainSum(mixedBytes(n, n)))
		sumIs(t, filledBytes(255, n), plainSum(filledBytes(255, n)))
	}
}

// filledBytes returns the same byte many times.
func filledBytes(x byte, many int) []byte {
	out := make([]byte, many)
	for i := range out {
		out[i] = x
	}
	return out
}

func TestP3WherePairsStandDoesNotMatter(t *testing.T) {
	for _, b := range sampleBytes() {
		sum := impl.SumOf(b)
		for i := 0; i+1 < len(b); i += 2 {
			for j := i + 2; j+1 < len(b); j += 2 {
				sumIs(t, pairsSwapped(b, i, j), sum)
			}
		}
	}
}

// pairsSwapped returns bytes with the pairs at two places in each other's place.
func pairsSwapped(b []byte, i int, j int) []byte {
	out := copied(b)
	copy(out[i:i+2], b[j:j+2])
	copy(out[j:j+2], b[i:i+2])
	return out
}

func TestP3WhichByteOfAPairIsGreaterMatters(t *testing.T) {
	if impl.SumOf([]byte{1, 0}) == impl.SumOf([]byte{0, 1}) {
		t.Fatal("the first byte of a pair is not the greater one")
	}
}

func TestP3ATurnedBitIsNoticed(t *testing.T) {
	for _, b := range sampleBytes() {
		sum := impl.SumOf(b)
		for i := range b {
			for bit := 0; bit < 8; bit++ {
				turned := bitTurned(b, i, bit)
				other := impl.SumOf(turned)
				if other%65535 == sum%65535 || impl.SumFits(turned, sum) {
					t.Fatal(b, i, bit, sum, other)
				}
			}
		}
	}
}

func TestP4KnownSumsFit(t *testing.T) {
	sumFits(t, nil, 65535, true)
	sumFits(t, nil, 0, true)
	sumFits(t, nil, 1, false)
	sumFits(t, nil, 65534, false)
	sumFits(t, []byte{255, 255}, 0, true)
	sumFits(t, []byte{255, 255}, 65535, true)
	sumFits(t, []byte{255, 255}, 1, false)
	sumFits(t, []byte{0, 0}, 0, true)
	sumFits(t, []byte{0, 0}, 65535, true)
	sumFits(t, []byte{1, 0}, 65279, true)
	sumFits(t, []byte{1, 0}, 1, false)
	sumFits(t, []byte{1, 0}, 0, false)
	sumFits(t, []byte{1, 0}, 65535, false)
	sumFits(t, []byte{1, 2, 3}, 65535-258-768, true)
	sumFits(t, []byte{1, 2, 3}, 65535-258-3, false)
}

// sumFits fails unless SumFits tells what is wanted of bytes and a sum.
func sumFits(t *testing.T, b []byte, sum int, want bool) {
	t.Helper()
	if got := impl.SumFits(b, sum); got != want {
		t.Fatal(b, sum, got)
	}
}

func TestP4WithItsSumBehindItEverythingSumsUpToNothing(t *testing.T) {
	for _, b := range sampleBytes() {
		if len(b)%2 == 1 {
			continue
		}
		for sum := 0; sum <= 65535; sum++ {
			whole := impl.SumOf(joined(b, impl.BytesOf(sum, 2)))
			sumFits(t, b, sum, whole == 0 || whole == 65535)
		}
	}
}

func TestP4JustTheSumFits(t *testing.T) {
	for _, b := range sampleBytes() {
		own := plainSum(b)
		for sum := 0; sum <= 65535; sum++ {
			sumFits(t, b, sum, sum%65535 == own%65535)
		}
	}
}

func TestP4SumsOutOfRangeFitNothing(t *testing.T) {
	for _, b := range sampleBytes() {
		for _, sum := range noPairs() {
			sumFits(t, b, sum, false)
		}
		for _, round := range []int{65536, 131070, 131072} {
			sumFits(t, b, plainSum(b)-round, false)
			sumFits(t, b, plainSum(b)+round, false)
		}
	}
}

func TestP5KnownSumsTurned(t *testing.T) {
	turnedIs(t, impl.SumOf([]byte{1, 2}), 258, 772, impl.SumOf([]byte{3, 4}))
	turnedIs(t, 100, 50, 20, 130)
	turnedIs(t, 100, 20, 50, 70)
	turnedIs(t, 65535, 0, 0, 65535)
	turnedIs(t, 65535, 0, 65535, 65535)
	turnedIs(t, 0, 65535, 0, 65535)
	turnedIs(t, 0, 0, 0, 65535)
	turnedIs(t, 0, 0, 65535, 0)
	turnedIs(t, 0, 0, 1, 65534)
	turnedIs(t, 65535, 65535, 0, 65535)
	turnedIs(t, 65535, 65535, 65535, 65535)
}

// turnedIs fails unless the turned sum is want.
func turnedIs(t *testing.T, sum int, old int, next int, want int) {
	t.Helper()
	if got := impl.SumTurned(sum, old, next); got != want {
		t.Fatal(sum, old, next, got, want)
	}
}

func TestP5TurnedAsItIsDefined(t *testing.T) {
	for _, sum := range pairNumbers() {
		for _, old := range pairNumbers() {
			for _, next := range pairNumbers() {
				// Three pairs are added up without the complement, so it is taken away from what plainSum took.
				pairs := joined(joined(impl.BytesOf(sum, 2), impl.BytesOf(old, 2)), impl.BytesOf(65535-next, 2))
				turnedIs(t, sum, old, next, 65535-plainSum(pairs))
			}
		}
	}
}

func TestP5TheSumIsTurnedWithAPair(t *testing.T) {
	for _, b := range sampleBytes() {
		for at := 0; at+1 < len(b); at += 2 {
			for _, next := range pairNumbers() {
				turnsAndBack(t, b, at, next)
			}
		}
	}
}

// turnsAndBack fails unless each sum that fits bytes, turned with the pair at a place, fits them then, and turned back what they were.
func turnsAndBack(t *testing.T, b []byte, at int, next int) {
	t.Helper()
	old := impl.NumberAt(b, at, 2)
	after := copied(b)
	copy(after[at:at+2], impl.BytesOf(next, 2))
	for _, sum := range []int{impl.SumOf(b), 0, 65535} {
		if !impl.SumFits(b, sum) {
			continue
		}
		turned := impl.SumTurned(sum, old, next)
		if !impl.SumFits(after, turned) {
			t.Fatal(b, at, next, sum, turned)
		}
		if back := impl.SumTurned(turned, next, old); !impl.SumFits(b, back) {
			t.Fatal("back", b, at, next, turned, back)
		}
	}
}

func TestP5NumbersOutOfRangeTurnNothing(t *testing.T) {
	for _, bad := range noPairs() {
		for _, good := range pairNumbers() {
			turnedIs(t, bad, good, good, -1)
			turnedIs(t, good, bad, good, -1)
			turnedIs(t, good, good, bad, -1)
			turnedIs(t, bad, bad, good, -1)
			turnedIs(t, good, bad, bad, -1)
			turnedIs(t, bad, bad, bad, -1)
		}
	}
}

func TestChapter1WritesNoArguments(t *testing.T) {
	for _, b := range sampleBytes() {
		was := copied(b)
		impl.NumberAt(b, 0, 2)
		impl.SumOf(b)
		impl.SumFits(b, 0)
		if !sameBytes(b, was) {
			t.Fatal(was, b)
		}
	}
}

func TestChapter1BytesAreNewMemory(t *testing.T) {
	first := impl.BytesOf(258, 2)
	second := impl.BytesOf(258, 2)
	first[0] = 99
	first = append(first, 7)
	if !sameBytes(second, []byte{1, 2}) || !sameBytes(impl.BytesOf(258, 2), []byte{1, 2}) {
		t.Fatal(first, second)
	}
}
