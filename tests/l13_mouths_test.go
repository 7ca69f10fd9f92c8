package tests

import (
	"testing"

	"loop.example/netstack/impl"
)

// mouthKeeps returns how many bytes a mouth may keep: both ends, what is next to them, and some between.
func mouthKeeps() []int {
	return []int{0, 1, 2, 5, 12, 13, 31, 32}
}

// noSegmentLimits returns limits of which no segment is.
func noSegmentLimits() []int {
	return []int{least, -256, -12, -1, 0, 13, 14, 32, 255, 256, 65537, greatest}
}

// rangesBehind returns ranges that begin and end so many places behind a place.
func rangesBehind(place int, steps [][2]int) []impl.Range {
	out := []impl.Range{}
	for _, s := range steps {
		out = append(out, impl.Range{From: place + s[0], To: place + s[1]})
	}
	return out
}

// mouthWith returns a mouth that keeps and sent so many bytes, with ranges that came early so many places behind Heard.
func mouthWith(heard int, keep int, sent int, room int, early [][2]int) impl.Mouth {
	return impl.Mouth{Heard: heard, Keep: mixedBytes(heard+keep, keep), Sent: sent, Room: room, Early: rangesBehind(heard, early)}
}

// earlySteps returns lists of ranges that may have come early of so many bytes that were sent: none, one right behind the first byte and one farther behind, one up to the last byte, and two with a gap of one byte and with a greater one.
func earlySteps(sent int) [][][2]int {
	out := [][][2]int{nil}
	if sent >= 2 {
		out = append(out, [][2]int{{1, 2}}, [][2]int{{1, sent}}, [][2]int{{sent - 1, sent}})
	}
	if sent >= 4 {
		out = append(out, [][2]int{{2, sent - 1}}, [][2]int{{1, 2}, {3, 4}}, [][2]int{{1, sent - 2}, {sent - 1, sent}}, [][2]int{{1, 2}, {sent - 1, sent}})
	}
	return out
}

// mouthRooms returns rooms: none, less than what was sent, just that, one more, what is kept, one more, and the greatest one.
func mouthRooms(keep int, sent int) []int {
	out := []int{0, sent, sent + 1, keep + 1, 255}
	if sent > 0 {
		out = append(out, sent-1)
	}
	if keep > sent+1 {
		out = append(out, keep)
	}
	return out
}

// sampleMouths returns mouths at both ends, that keep none to all bytes, of which none, some and all were sent, with all kinds of rooms and early ranges.
func sampleMouths() []impl.Mouth {
	out := []impl.Mouth{}
	for _, heard := range []int{0, 1, 300, 65530, 999990, 1000000} {
		for _, keep := range mouthKeeps() {
			for _, sent := range someSent(keep) {
				for _, room := range mouthRooms(keep, sent) {
					for _, early := range earlySteps(sent) {
						out = append(out, mouthWith(heard, keep, sent, room, early))
					}
				}
			}
		}
	}
	return out
}

// someSent returns how many of so many bytes may have been sent: none, one, half, all but one, and all.
func someSent(keep int) []int {
	out := []int{}
	for _, sent := range []int{0, 1, keep / 2, keep - 1, keep} {
		if sent >= 0 && sent <= keep {
			out = append(out, sent)
		}
	}
	return out
}

// mixedMouth returns a mouth in which nothing is in an order that can be seen, the same one for the same seed.
func mixedMouth(seed int) impl.Mouth {
	b := mixedBytes(seed, 9)
	m := impl.Mouth{Heard: mixedPlace(seed), Keep: mixedBytes(seed+1, int(b[0])%33)}
	m.Sent = int(b[1]) % (len(m.Keep) + 1)
	m.Room = int(b[2]) % (len(m.Keep) + 3)
	from := 1 + int(b[3])%7
	for i := 0; i < int(b[4])%3; i++ {
		to := from + 1 + int(b[5+i])%6
		if to <= m.Sent {
			m.Early = append(m.Early, impl.Range{From: m.Heard + from, To: m.Heard + to})
		}
		from = to + 1 + int(b[7+i])%5
	}
	return m
}

// badMouths returns mouths that are none: one thing is out of range, or all are.
func badMouths() []impl.Mouth {
	out := []impl.Mouth{{Heard: -1, Keep: filledBytes(1, 33), Sent: -1, Room: 256, Early: []impl.Range{{}, {}, {}}}}
	for _, v := range noPlaces() {
		out = append(out, impl.Mouth{Heard: v}, mouthWith(v, 5, 3, 9, nil), impl.Mouth{Heard: v, Keep: mixedBytes(3, 5), Sent: 5, Early: rangesBehind(v, [][2]int{{1, 2}})})
	}
	for _, v := range []int{33, 34, 64, 65, 255, 256, 300} {
		out = append(out, mouthWith(5, v, 0, 9, nil), mouthWith(5, v, 32, 9, nil), mouthWith(5, v, 7, 9, [][2]int{{1, 2}}))
	}
	for _, keep := range mouthKeeps() {
		for _, v := range []int{least, -33, -32, -1, keep + 1, keep + 2, 33, 256, greatest} {
			out = append(out, mouthWith(5, keep, v, 9, nil), mouthWith(1000000, keep, v, 9, nil))
		}
		for _, v := range noSegmentRooms() {
			out = append(out, mouthWith(5, keep, keep, v, nil), mouthWith(5, keep, 0, v, nil))
		}
	}
	return append(out, mouthsWithBadRanges()...)
}

// mouthsWithBadRanges returns mouths that would be ones without their early ranges.
func mouthsWithBadRanges() []impl.Mouth {
	out := []impl.Mouth{}
	for _, early := range [][][2]int{
		{{1, 2}, {3, 4}, {5, 6}}, {{1, 2}, {3, 4}, {9, 10}}, {{1, 2}, {1, 2}, {1, 2}},
		{{1, 1}}, {{2, 2}}, {{8, 8}}, {{1, 2}, {4, 4}}, {{2, 2}, {4, 5}},
		{{2, 1}}, {{8, 1}}, {{3, 2}, {5, 6}}, {{1, 2}, {6, 5}},
		{{0, 1}}, {{0, 8}}, {{0, 0}}, {{-1, 1}}, {{-1, 0}}, {{-5, -3}}, {{-1, 8}}, {{0, 1}, {3, 4}}, {{1, 2}, {0, 1}},
		{{1, 9}}, {{7, 9}}, {{8, 9}}, {{9, 10}}, {{20, 21}}, {{1, 2}, {7, 9}}, {{1, 2}, {8, 9}},
		{{1, 2}, {2, 3}}, {{1, 4}, {4, 8}}, {{1, 3}, {2, 4}}, {{1, 8}, {2, 3}}, {{1, 2}, {1, 2}}, {{2, 3}, {1, 4}},
		{{3, 4}, {1, 2}}, {{6, 8}, {1, 3}}, {{4, 5}, {2, 3}},
	} {
		for _, heard := range []int{0, 5, 1000000} {
			out = append(out, mouthWith(heard, 8, 8, 9, early), mouthWith(heard, 12, 8, 0, early))
		}
	}
	for _, r := range []impl.Range{{From: least, To: greatest}, {From: greatest, To: least}, {From: least, To: least}, {From: greatest, To: greatest}, {From: 6, To: greatest}, {From: least, To: 7}} {
		out = append(out, impl.Mouth{Heard: 5, Keep: mixedBytes(1, 8), Sent: 8, Early: []impl.Range{r}})
		out = append(out, impl.Mouth{Heard: 5, Keep: mixedBytes(1, 8), Sent: 8, Early: []impl.Range{{From: 6, To: 7}, r}})
	}
	for keep := 0; keep <= 3; keep++ {
		// What is kept, but was not sent, cannot have come early.
		out = append(out, mouthWith(5, keep, 0, 9, [][2]int{{1, 2}}), mouthWith(5, keep+1, 1, 9, [][2]int{{1, 2}}), mouthWith(5, keep+2, 2, 9, [][2]int{{1, 3}}))
	}
	return out
}

// sameMouth reports whether both are the same; no bytes and no ranges are the same as nil.
func sameMouth(a impl.Mouth, b impl.Mouth) bool {
	return a.Heard == b.Heard && a.Sent == b.Sent && a.Room == b.Room && sameBytes(a.Keep, b.Keep) && sameRanges(a.Early, b.Early)
}

// mouthOkAsDefined tells by the definition what MouthOk tells.
func mouthOkAsDefined(m impl.Mouth) bool {
	ok := m.Heard >= 0 && m.Heard <= 1000000 && len(m.Keep) <= 32 && m.Sent >= 0 && m.Sent <= len(m.Keep) && m.Room >= 0 && m.Room <= 255
	return ok && len(m.Early) <= 2 && sameRanges(m.Early, rangesAsDefined(m.Early, m.Heard, m.Heard+m.Sent))
}

// rangesAsDefined returns by the definition those ranges that are ranges of what was sent behind a place, up to the place behind it: each of their bytes is, there is one, and all that were taken are ahead of a gap ahead of it.
func rangesAsDefined(ranges []impl.Range, place int, sent int) []impl.Range {
	out := []impl.Range{}
	for _, r := range ranges {
		ok := r.From < r.To && r.From > place && r.From < sent && r.To > place+1 && r.To <= sent && len(out) < 2
		for _, taken := range out {
			ok = ok && taken.To < r.From
		}
		if ok {
			out = append(out, r)
		}
	}
	return out
}

// nextAsDefined returns by the definition what a mouth is after it told new bytes, and these: one after the other goes, as long as it may.
func nextAsDefined(m impl.Mouth, limit int) (impl.Mouth, []byte) {
	out := m
	told := []byte{}
	for step := m.Sent; step < len(m.Keep) && step < m.Room && len(told) < limit; step++ {
		told = append(told, m.Keep[step])
		out.Sent++
	}
	return out, told
}

// againAsDefined returns by the definition the bytes that are told again: one after the other goes, till one is there.
func againAsDefined(m impl.Mouth, limit int) []byte {
	out := []byte{}
	for step := 0; step < m.Sent && len(out) < limit && !inRanges(m.Early, m.Heard+step); step++ {
		out = append(out, m.Keep[step])
	}
	return out
}

// inRanges reports whether a place is in one of the ranges.
func inRanges(ranges []impl.Range, place int) bool {
	for _, r := range ranges {
		if place >= r.From && place < r.To {
			return true
		}
	}
	return false
}

// mouthHeardAsDefined returns by the definition what a mouth is after it heard something, and how many bytes more were heard: one after the other is forgotten, till the place is reached.
func mouthHeardAsDefined(m impl.Mouth, at int, room int, ranges []impl.Range) (impl.Mouth, int) {
	if at < m.Heard || at > m.Heard+m.Sent {
		return m, 0
	}
	if at > 1000000 {
		return impl.Mouth{}, 0
	}
	out := impl.Mouth{Heard: m.Heard, Keep: m.Keep, Sent: m.Sent, Room: room, Early: rangesAsDefined(ranges, at, m.Heard+m.Sent)}
	more := 0
	for out.Heard < at {
		out.Heard++
		out.Sent--
		out.Keep = out.Keep[1:]
		more++
	}
	return out, more
}

// mouthOkIs fails unless MouthOk tells what is wanted of a mouth.
func mouthOkIs(t *testing.T, m impl.Mouth, want bool) {
	t.Helper()
	if got := impl.MouthOk(m); got != want {
		t.Fatal(m, got)
	}
}

// writeIs fails unless a mouth is the mouth want after bytes were written, and so many are kept.
func writeIs(t *testing.T, m impl.Mouth, data []byte, want impl.Mouth, many int) {
	t.Helper()
	if got, n := impl.MouthWrite(m, data); !sameMouth(got, want) || n != many {
		t.Fatal(m, data, got, n, want, many)
	}
}

// nextIs fails unless a mouth is the mouth want after it told new bytes, and tells these, from the place at on.
func nextIs(t *testing.T, m impl.Mouth, limit int, want impl.Mouth, at int, told []byte) {
	t.Helper()
	if got, place, b := impl.MouthNext(m, limit); !sameMouth(got, want) || place != at || !sameBytes(b, told) {
		t.Fatal(m, limit, got, place, b, want, at, told)
	}
}

// againIs fails unless a mouth tells these bytes again, from the place at on.
func againIs(t *testing.T, m impl.Mouth, limit int, at int, told []byte) {
	t.Helper()
	if place, b := impl.MouthAgain(m, limit); place != at || !sameBytes(b, told) {
		t.Fatal(m, limit, place, b, at, told)
	}
}

// mouthHearIs fails unless a mouth is the mouth want after it heard something, and so many bytes more were heard.
func mouthHearIs(t *testing.T, m impl.Mouth, at int, room int, ranges []impl.Range, want impl.Mouth, more int) {
	t.Helper()
	if got, n := impl.MouthHear(m, at, room, ranges); !sameMouth(got, want) || n != more {
		t.Fatal(m, at, room, ranges, got, n, want, more)
	}
}

// rangesHeardAre fails unless a mouth that hears the place at takes these ranges.
func rangesHeardAre(t *testing.T, m impl.Mouth, at int, ranges []impl.Range, want []impl.Range) {
	t.Helper()
	if got, _ := impl.MouthHear(m, at, 9, ranges); got.Heard != at || got.Room != 9 || !sameRanges(got.Early, want) {
		t.Fatal(m, at, ranges, got, want)
	}
}

func TestP121KnownMouths(t *testing.T) {
	all := mixedBytes(1, 33)
	mouthOkIs(t, impl.Mouth{}, true)
	mouthOkIs(t, impl.Mouth{Heard: 1000000, Room: 255}, true)
	mouthOkIs(t, impl.Mouth{Heard: 1000001}, false)
	mouthOkIs(t, impl.Mouth{Heard: -1}, false)
	mouthOkIs(t, impl.Mouth{Keep: all[:1]}, true)
	mouthOkIs(t, impl.Mouth{Keep: all[:1], Sent: 1}, true)
	mouthOkIs(t, impl.Mouth{Keep: all[:1], Sent: 2}, false)
	mouthOkIs(t, impl.Mouth{Keep: all[:1], Sent: -1}, false)
	mouthOkIs(t, impl.Mouth{Keep: all[:32], Sent: 32}, true)
	mouthOkIs(t, impl.Mouth{Keep: all, Sent: 32}, false)
	mouthOkIs(t, impl.Mouth{Sent: 1}, false)
	mouthOkIs(t, impl.Mouth{Room: 256}, false)
	mouthOkIs(t, impl.Mouth{Room: -1}, false)
	// Behind Heard begins one place behind it, since what is waited for did not come.
	mouthOkIs(t, impl.Mouth{Heard: 10, Keep: all[:6], Sent: 4, Early: []impl.Range{{From: 11, To: 14}}}, true)
	mouthOkIs(t, impl.Mouth{Heard: 10, Keep: all[:6], Sent: 4, Early: []impl.Range{{From: 10, To: 14}}}, false)
	mouthOkIs(t, impl.Mouth{Heard: 10, Keep: all[:6], Sent: 4, Early: []impl.Range{{From: 11, To: 15}}}, false)
	mouthOkIs(t, impl.Mouth{Heard: 10, Keep: all[:6], Sent: 4, Early: []impl.Range{{From: 11, To: 12}, {From: 13, To: 14}}}, true)
	mouthOkIs(t, impl.Mouth{Heard: 10, Keep: all[:6], Sent: 4, Early: []impl.Range{{From: 11, To: 12}, {From: 12, To: 14}}}, false)
	mouthOkIs(t, impl.Mouth{Heard: 10, Keep: all[:6], Sent: 4, Early: []impl.Range{{From: 13, To: 14}, {From: 11, To: 12}}}, false)
}

func TestP121RoomMayBeLessThanWhatWasSent(t *testing.T) {
	for room := 0; room <= 40; room++ {
		mouthOkIs(t, mouthWith(5, 32, 32, room, [][2]int{{30, 32}}), true)
		// What is kept may go beyond all places, just Heard may not.
		mouthOkIs(t, mouthWith(1000000, 32, 32, room, [][2]int{{1, 2}, {30, 32}}), true)
	}
}

func TestP121WhoToldNothingYetIsAMouth(t *testing.T) {
	for _, m := range sampleMouths() {
		mouthOkIs(t, m, true)
		none := m
		none.Early = nil
		mouthOkIs(t, none, true)
		none.Sent = 0
		mouthOkIs(t, none, true)
		// With nothing sent nothing can have come early.
		none.Early = m.Early
		mouthOkIs(t, none, len(m.Early) == 0)
	}
}

func TestP121AllNumbersOfBytes(t *testing.T) {
	for keep := 0; keep <= 40; keep++ {
		for sent := -3; sent <= 43; sent++ {
			mouthOkIs(t, mouthWith(5, keep, sent, 9, nil), keep <= 32 && sent >= 0 && sent <= keep)
		}
	}
}

func TestP121AllRooms(t *testing.T) {
	for room := -300; room <= 600; room++ {
		for _, keep := range mouthKeeps() {
			mouthOkIs(t, mouthWith(5, keep, keep/2, room, nil), room >= 0 && room <= 255)
		}
	}
}

func TestP121AllEarlyRanges(t *testing.T) {
	for _, heard := range []int{0, 5, 65533, 1000000} {
		for sent := 0; sent <= 32; sent++ {
			for from := -2; from <= 34; from++ {
				for to := -2; to <= 34; to++ {
					mouthOkIs(t, mouthWith(heard, 32, sent, 9, [][2]int{{from, to}}), from >= 1 && to > from && to <= sent)
				}
			}
		}
	}
}

func TestP121AllPairsOfEarlyRanges(t *testing.T) {
	for _, a := range shortSpans(-1, 8) {
		for _, b := range shortSpans(-1, 8) {
			early := [][2]int{a, b}
			ok := a[0] >= 1 && a[1] > a[0] && b[0] > a[1] && b[1] > b[0] && b[1] <= 7
			mouthOkIs(t, mouthWith(5, 9, 7, 9, early), ok)
			mouthOkIs(t, mouthWith(5, 9, 7, 9, append(early, [2]int{6, 7})), false)
			mouthOkIs(t, mouthWith(5, 32, 32, 9, append(early, [2]int{20, 21})), false)
		}
	}
}

// shortSpans returns all spans with both ends between two numbers, also such that are empty or turned about.
func shortSpans(from int, to int) [][2]int {
	out := [][2]int{}
	for a := from; a <= to; a++ {
		for b := from; b <= to; b++ {
			out = append(out, [2]int{a, b})
		}
	}
	return out
}

func TestP121MouthsAreAsDefined(t *testing.T) {
	for seed := 0; seed < 4000; seed++ {
		m := mixedMouth(seed)
		mouthOkIs(t, m, true)
		b := mixedBytes(seed+7, 4)
		other := m
		other.Sent = int(b[0])%40 - 3
		mouthOkIs(t, other, mouthOkAsDefined(other))
		other = m
		other.Room = 2*int(b[1]) - 100
		mouthOkIs(t, other, mouthOkAsDefined(other))
		other = m
		other.Early = append(append([]impl.Range{}, m.Early...), impl.Range{From: m.Heard + int(b[2])%20, To: m.Heard + int(b[3])%30})
		mouthOkIs(t, other, mouthOkAsDefined(other))
		other.Heard += int(b[0])%5 - 2
		mouthOkIs(t, other, mouthOkAsDefined(other))
	}
}

func TestP121InvalidMouthsAreNotOk(t *testing.T) {
	for _, m := range badMouths() {
		mouthOkIs(t, m, false)
	}
}

func TestP44KnownWrites(t *testing.T) {
	all := mixedBytes(1, 60)
	m := impl.Mouth{Heard: 10, Keep: []byte("abcd"), Sent: 3, Room: 2, Early: []impl.Range{{From: 11, To: 12}}}
	writeIs(t, m, nil, m, 0)
	writeIs(t, m, []byte{}, m, 0)
	writeIs(t, m, []byte("ef"), impl.Mouth{Heard: 10, Keep: []byte("abcdef"), Sent: 3, Room: 2, Early: m.Early}, 2)
	full := impl.Mouth{Heard: 10, Keep: joined([]byte("abcd"), all[:28]), Sent: 3, Room: 2, Early: m.Early}
	writeIs(t, m, all[:28], full, 28)
	writeIs(t, m, all[:29], full, 28)
	writeIs(t, m, all, full, 28)
	writeIs(t, full, nil, full, 0)
	writeIs(t, full, []byte("e"), full, 0)
	writeIs(t, full, all, full, 0)
	writeIs(t, impl.Mouth{}, all, impl.Mouth{Keep: all[:32]}, 32)
	writeIs(t, impl.Mouth{}, all[:32], impl.Mouth{Keep: all[:32]}, 32)
	writeIs(t, impl.Mouth{}, all[:31], impl.Mouth{Keep: all[:31]}, 31)
	// What is kept may go beyond the last place.
	writeIs(t, impl.Mouth{Heard: 1000000}, all[:3], impl.Mouth{Heard: 1000000, Keep: all[:3]}, 3)
}

func TestP44WhatIsWrittenStandsBehindAllElse(t *testing.T) {
	for _, m := range sampleMouths() {
		free := 32 - len(m.Keep)
		for _, many := range []int{0, 1, free - 1, free, free + 1, 40, 300} {
			if many < 0 {
				continue
			}
			data := mixedBytes(many+3, many)
			want := m
			kept := many
			if kept > free {
				kept = free
			}
			want.Keep = joined(m.Keep, data[:kept])
			mouthOkIs(t, want, true)
			writeIs(t, m, data, want, kept)
		}
	}
}

func TestP44WrittenInPartsItIsTheSame(t *testing.T) {
	for seed := 0; seed < 300; seed++ {
		m := mixedMouth(seed)
		all := mixedBytes(seed+2, 45)
		want, many := impl.MouthWrite(m, all)
		for cut := 0; cut <= 45; cut++ {
			part, first := impl.MouthWrite(m, all[:cut])
			rest, second := impl.MouthWrite(part, all[cut:])
			// Behind a part that was not kept as a whole nothing of the rest is kept, either.
			if !impl.MouthOk(part) || !sameMouth(rest, want) || first+second != many {
				t.Fatal(m, cut, part, rest, want)
			}
		}
	}
}

func TestP44ToInvalidMouthsNothingIsWritten(t *testing.T) {
	for _, m := range badMouths() {
		for _, data := range someTold(4) {
			writeIs(t, m, data, impl.Mouth{}, 0)
		}
	}
}

func TestP45KnownTellings(t *testing.T) {
	m := impl.Mouth{Heard: 10, Keep: []byte("abcdefgh"), Room: 6}
	four := impl.Mouth{Heard: 10, Keep: []byte("abcdefgh"), Sent: 4, Room: 6}
	six := impl.Mouth{Heard: 10, Keep: []byte("abcdefgh"), Sent: 6, Room: 6}
	nextIs(t, m, 4, four, 10, []byte("abcd"))
	nextIs(t, m, 1, impl.Mouth{Heard: 10, Keep: []byte("abcdefgh"), Sent: 1, Room: 6}, 10, []byte("a"))
	nextIs(t, m, 12, six, 10, []byte("abcdef"))
	nextIs(t, four, 4, six, 14, []byte("ef"))
	nextIs(t, six, 4, six, 16, nil)
	more := impl.Mouth{Heard: 10, Keep: []byte("abcdefgh"), Sent: 6, Room: 7}
	nextIs(t, more, 4, impl.Mouth{Heard: 10, Keep: []byte("abcdefgh"), Sent: 7, Room: 7}, 16, []byte("g"))
	more = impl.Mouth{Heard: 10, Keep: []byte("abcdefgh"), Sent: 6, Room: 255}
	nextIs(t, more, 12, impl.Mouth{Heard: 10, Keep: []byte("abcdefgh"), Sent: 8, Room: 255}, 16, []byte("gh"))
	nextIs(t, impl.Mouth{}, 1, impl.Mouth{}, 0, nil)
	nextIs(t, impl.Mouth{Heard: 7, Room: 9}, 12, impl.Mouth{Heard: 7, Room: 9}, 7, nil)
	// Places of what is told may be beyond the last place of Heard.
	last := impl.Mouth{Heard: 1000000, Keep: []byte("abc"), Sent: 1, Room: 9}
	nextIs(t, last, 12, impl.Mouth{Heard: 1000000, Keep: []byte("abc"), Sent: 3, Room: 9}, 1000001, []byte("bc"))
}

func TestP45RoomThatIsLessTellsNothingNew(t *testing.T) {
	for sent := 0; sent <= 32; sent++ {
		for room := 0; room <= 40; room++ {
			m := mouthWith(300, 32, sent, room, nil)
			if room <= sent || sent == 32 {
				nextIs(t, m, 12, m, 300+sent, nil)
				continue
			}
			end := room
			if end > 32 {
				end = 32
			}
			if end > sent+12 {
				end = sent + 12
			}
			nextIs(t, m, 12, mouthWith(300, 32, end, room, nil), 300+sent, m.Keep[sent:end])
		}
	}
}

func TestP45NewBytesAreThoseBehindWhatWasSent(t *testing.T) {
	for _, m := range sampleMouths() {
		for limit := 1; limit <= 12; limit++ {
			newBytesAreTold(t, m, limit)
		}
	}
	for seed := 0; seed < 8000; seed++ {
		newBytesAreTold(t, mixedMouth(seed), 1+seed%12)
	}
}

// newBytesAreTold fails unless what a mouth tells is behind what was sent, is sent then, and goes not beyond the room; and it keeps the same.
func newBytesAreTold(t *testing.T, m impl.Mouth, limit int) {
	t.Helper()
	want, told := nextAsDefined(m, limit)
	nextIs(t, m, limit, want, m.Heard+m.Sent, told)
	got, at, b := impl.MouthNext(m, limit)
	if !impl.MouthOk(got) || got.Heard+got.Sent != at+len(b) || !sameBytes(got.Keep, m.Keep) || len(b) > limit {
		t.Fatal(m, limit, got, at, b)
	}
	if len(b) > 0 && at+len(b) > m.Heard+m.Room {
		t.Fatal("beyond the room", m, limit, at, b)
	}
}

func TestP45EachByteIsToldOnce(t *testing.T) {
	for _, m := range sampleMouths() {
		for _, limit := range []int{1, 3, 12} {
			all := []byte{}
			now := m
			for turn := 0; turn <= 32; turn++ {
				next, at, b := impl.MouthNext(now, limit)
				if at != m.Heard+m.Sent+len(all) {
					t.Fatal(m, limit, at, all)
				}
				all = append(all, b...)
				now = next
			}
			to := m.Room
			if to > len(m.Keep) {
				to = len(m.Keep)
			}
			if to < m.Sent {
				to = m.Sent
			}
			if !sameBytes(all, m.Keep[m.Sent:to]) || now.Sent != to {
				t.Fatal(m, limit, all, now)
			}
		}
	}
}

func TestP45WhatIsWrittenLaterIsToldLater(t *testing.T) {
	for seed := 0; seed < 500; seed++ {
		m := mixedMouth(seed)
		m.Room = 255
		want := m.Keep[m.Sent:]
		all := []byte{}
		for turn := 0; turn < 30; turn++ {
			next, _, b := impl.MouthNext(m, 1+(seed+turn)%12)
			all = append(all, b...)
			data := mixedBytes(seed+turn, (seed+turn)%5)
			written, many := impl.MouthWrite(next, data)
			want = joined(want, data[:many])
			m = written
		}
		if len(all) > len(want) || !sameBytes(all, want[:len(all)]) || !sameBytes(joined(all, m.Keep[m.Sent:]), want) {
			t.Fatal(seed, all, want, m)
		}
	}
}

func TestP45OtherLimitsTellNothing(t *testing.T) {
	for _, limit := range noSegmentLimits() {
		for _, m := range sampleMouths() {
			nextIs(t, m, limit, impl.Mouth{}, 0, nil)
		}
	}
}

func TestP45InvalidMouthsTellNothing(t *testing.T) {
	for _, m := range badMouths() {
		for _, limit := range []int{-1, 0, 1, 5, 12, 13} {
			nextIs(t, m, limit, impl.Mouth{}, 0, nil)
		}
	}
}

func TestP46KnownTellingsAgain(t *testing.T) {
	m := impl.Mouth{Heard: 10, Keep: []byte("abcdefgh"), Sent: 6, Room: 9}
	againIs(t, m, 1, 10, []byte("a"))
	againIs(t, m, 5, 10, []byte("abcde"))
	againIs(t, m, 6, 10, []byte("abcdef"))
	againIs(t, m, 12, 10, []byte("abcdef"))
	m.Early = []impl.Range{{From: 11, To: 13}}
	againIs(t, m, 1, 10, []byte("a"))
	againIs(t, m, 12, 10, []byte("a"))
	m.Early = []impl.Range{{From: 13, To: 14}, {From: 15, To: 16}}
	againIs(t, m, 2, 10, []byte("ab"))
	againIs(t, m, 3, 10, []byte("abc"))
	againIs(t, m, 4, 10, []byte("abc"))
	againIs(t, m, 12, 10, []byte("abc"))
	m.Early = []impl.Range{{From: 15, To: 16}}
	againIs(t, m, 12, 10, []byte("abcde"))
	// Who sent nothing tells nothing again.
	againIs(t, impl.Mouth{Heard: 10, Keep: []byte("abcdefgh"), Room: 9}, 12, 10, nil)
	againIs(t, impl.Mouth{Heard: 10, Room: 9}, 12, 10, nil)
	againIs(t, impl.Mouth{}, 1, 0, nil)
	againIs(t, impl.Mouth{Heard: 1000000, Keep: []byte("abc"), Sent: 2}, 12, 1000000, []byte("ab"))
	all := mixedBytes(1, 32)
	againIs(t, impl.Mouth{Heard: 5, Keep: all, Sent: 32}, 12, 5, all[:12])
	againIs(t, impl.Mouth{Heard: 5, Keep: all, Sent: 32, Early: []impl.Range{{From: 20, To: 37}}}, 12, 5, all[:12])
	againIs(t, impl.Mouth{Heard: 5, Keep: all, Sent: 32, Early: []impl.Range{{From: 16, To: 37}}}, 12, 5, all[:11])
}

func TestP46WhatIsToldAgainWasTold(t *testing.T) {
	for _, m := range sampleMouths() {
		for limit := 1; limit <= 12; limit++ {
			wasTold(t, m, limit)
		}
	}
	for seed := 0; seed < 8000; seed++ {
		wasTold(t, mixedMouth(seed), 1+seed%12)
	}
}

// wasTold fails unless what a mouth tells again are the first bytes that it keeps, of what was sent, none of which came early; and there is one just if something was sent.
func wasTold(t *testing.T, m impl.Mouth, limit int) {
	t.Helper()
	againIs(t, m, limit, m.Heard, againAsDefined(m, limit))
	at, b := impl.MouthAgain(m, limit)
	if at != m.Heard || len(b) > m.Sent || len(b) > limit || !sameBytes(b, m.Keep[:len(b)]) || (len(b) > 0) != (m.Sent > 0) {
		t.Fatal(m, limit, at, b)
	}
	for step := range b {
		if inRanges(m.Early, at+step) {
			t.Fatal("came early", m, limit, at, b)
		}
	}
}

func TestP46ItHangsOnNothingElse(t *testing.T) {
	for _, m := range sampleMouths() {
		at, b := impl.MouthAgain(m, 12)
		other := m
		other.Keep = joined(m.Keep[:m.Sent], mixedBytes(m.Sent, 32-m.Sent))
		for _, room := range []int{0, 1, 255} {
			other.Room = room
			againIs(t, other, 12, at, b)
		}
	}
}

func TestP46AllEarlyRanges(t *testing.T) {
	for sent := 0; sent <= 14; sent++ {
		for from := 1; from < sent; from++ {
			for to := from + 1; to <= sent; to++ {
				m := mouthWith(300, 20, sent, 0, [][2]int{{from, to}})
				for limit := 1; limit <= 12; limit++ {
					many := limit
					if many > from {
						many = from
					}
					againIs(t, m, limit, 300, m.Keep[:many])
				}
			}
		}
	}
}

func TestP46OtherLimitsTellNothingAgain(t *testing.T) {
	for _, limit := range noSegmentLimits() {
		for _, m := range sampleMouths() {
			againIs(t, m, limit, 0, nil)
		}
	}
}

func TestP46InvalidMouthsTellNothingAgain(t *testing.T) {
	for _, m := range badMouths() {
		for _, limit := range []int{-1, 0, 1, 5, 12, 13} {
			againIs(t, m, limit, 0, nil)
		}
	}
}

func TestP47KnownHearing(t *testing.T) {
	m := impl.Mouth{Heard: 10, Keep: []byte("abcdefgh"), Sent: 6, Room: 6, Early: []impl.Range{{From: 12, To: 13}}}
	mouthHearIs(t, m, 9, 7, nil, m, 0)
	mouthHearIs(t, m, 0, 7, []impl.Range{{From: 13, To: 14}}, m, 0)
	mouthHearIs(t, m, 10, 7, nil, impl.Mouth{Heard: 10, Keep: []byte("abcdefgh"), Sent: 6, Room: 7}, 0)
	mouthHearIs(t, m, 10, 6, m.Early, m, 0)
	mouthHearIs(t, m, 11, 7, nil, impl.Mouth{Heard: 11, Keep: []byte("bcdefgh"), Sent: 5, Room: 7}, 1)
	mouthHearIs(t, m, 11, 7, m.Early, impl.Mouth{Heard: 11, Keep: []byte("bcdefgh"), Sent: 5, Room: 7, Early: m.Early}, 1)
	mouthHearIs(t, m, 15, 255, nil, impl.Mouth{Heard: 15, Keep: []byte("fgh"), Sent: 1, Room: 255}, 5)
	mouthHearIs(t, m, 16, 0, nil, impl.Mouth{Heard: 16, Keep: []byte("gh")}, 6)
	// What was kept, but not sent, nobody can have heard.
	mouthHearIs(t, m, 17, 7, nil, m, 0)
	mouthHearIs(t, m, 18, 7, []impl.Range{{From: 13, To: 14}}, m, 0)
	mouthHearIs(t, m, 19, 7, nil, m, 0)
	mouthHearIs(t, m, least, 7, nil, m, 0)
	mouthHearIs(t, m, greatest, 7, nil, m, 0)
	mouthHearIs(t, impl.Mouth{}, 0, 9, nil, impl.Mouth{Room: 9}, 0)
	mouthHearIs(t, impl.Mouth{}, 1, 9, nil, impl.Mouth{}, 0)
	mouthHearIs(t, impl.Mouth{Room: 3}, -1, 9, nil, impl.Mouth{Room: 3}, 0)
}

func TestP47RoomMayBecomeLess(t *testing.T) {
	m := impl.Mouth{Heard: 10, Keep: []byte("abcdefgh"), Sent: 6, Room: 6}
	for room := 0; room <= 255; room++ {
		mouthHearIs(t, m, 10, room, nil, impl.Mouth{Heard: 10, Keep: []byte("abcdefgh"), Sent: 6, Room: room}, 0)
		mouthHearIs(t, m, 12, room, nil, impl.Mouth{Heard: 12, Keep: []byte("cdefgh"), Sent: 4, Room: room}, 2)
	}
	less, _ := impl.MouthHear(m, 11, 2, nil)
	nextIs(t, less, 12, less, 16, nil)
	againIs(t, less, 12, 11, []byte("bcdef"))
	same, _ := impl.MouthHear(less, 11, 6, nil)
	nextIs(t, same, 12, impl.Mouth{Heard: 11, Keep: []byte("bcdefgh"), Sent: 6, Room: 6}, 16, []byte("g"))
}

func TestP47KnownRangesThatAreTaken(t *testing.T) {
	m := impl.Mouth{Heard: 10, Keep: mixedBytes(3, 14), Sent: 10, Room: 9, Early: []impl.Range{{From: 18, To: 19}}}
	for _, c := range []struct {
		at     int
		ranges [][2]int
		want   [][2]int
	}{
		{10, nil, nil},
		{10, [][2]int{{12, 14}}, [][2]int{{12, 14}}},
		{10, [][2]int{{12, 14}, {16, 18}}, [][2]int{{12, 14}, {16, 18}}},
		{10, [][2]int{{12, 13}, {14, 15}, {16, 17}}, [][2]int{{12, 13}, {14, 15}}},
		{10, [][2]int{{11, 20}}, [][2]int{{11, 20}}},
		// Beyond what was sent, wholly or with the last byte alone.
		{10, [][2]int{{11, 21}}, nil},
		{10, [][2]int{{19, 20}}, [][2]int{{19, 20}}},
		{10, [][2]int{{19, 21}}, nil},
		{10, [][2]int{{20, 21}}, nil},
		{10, [][2]int{{20, 20}}, nil},
		{10, [][2]int{{40, 41}, {12, 14}}, [][2]int{{12, 14}}},
		{10, [][2]int{{12, 14}, {16, 21}, {17, 18}}, [][2]int{{12, 14}, {17, 18}}},
		// At the place, ahead of it and behind it.
		{13, [][2]int{{13, 15}}, nil},
		{13, [][2]int{{12, 15}}, nil},
		{13, [][2]int{{11, 12}}, nil},
		{13, [][2]int{{11, 13}}, nil},
		{13, [][2]int{{14, 15}}, [][2]int{{14, 15}}},
		{13, [][2]int{{12, 15}, {14, 15}}, [][2]int{{14, 15}}},
		{10, [][2]int{{10, 15}}, nil},
		{10, [][2]int{{11, 15}}, [][2]int{{11, 15}}},
		{19, [][2]int{{19, 20}}, nil},
		{20, [][2]int{{20, 21}, {12, 14}}, nil},
		// Empty, and turned about.
		{10, [][2]int{{12, 12}}, nil},
		{10, [][2]int{{14, 12}}, nil},
		{10, [][2]int{{14, 14}, {12, 13}}, [][2]int{{12, 13}}},
		{10, [][2]int{{18, 12}, {12, 13}}, [][2]int{{12, 13}}},
		// Next to each other, overlapping, the same, and out of order: the first one is taken, and the other one as if it were not there.
		{10, [][2]int{{12, 14}, {14, 16}}, [][2]int{{12, 14}}},
		{10, [][2]int{{12, 14}, {15, 16}}, [][2]int{{12, 14}, {15, 16}}},
		{10, [][2]int{{12, 14}, {14, 16}, {15, 16}}, [][2]int{{12, 14}, {15, 16}}},
		{10, [][2]int{{12, 15}, {14, 16}}, [][2]int{{12, 15}}},
		{10, [][2]int{{12, 18}, {14, 16}, {19, 20}}, [][2]int{{12, 18}, {19, 20}}},
		{10, [][2]int{{14, 16}, {12, 18}}, [][2]int{{14, 16}}},
		{10, [][2]int{{12, 14}, {12, 14}}, [][2]int{{12, 14}}},
		{10, [][2]int{{16, 18}, {12, 14}}, [][2]int{{16, 18}}},
		{10, [][2]int{{16, 17}, {12, 14}, {18, 19}}, [][2]int{{16, 17}, {18, 19}}},
		{10, [][2]int{{18, 19}, {16, 17}, {14, 15}}, [][2]int{{18, 19}}},
	} {
		rangesHeardAre(t, m, c.at, rangesBehind(0, c.ranges), rangesBehind(0, c.want))
	}
}

func TestP47ManyRangesAreHeard(t *testing.T) {
	m := mouthWith(10, 32, 32, 9, nil)
	ranges := []impl.Range{}
	for i := 0; i < 500; i++ {
		ranges = append(ranges, impl.Range{From: 10 - i, To: 12 + i}, impl.Range{From: 11, To: 11}, impl.Range{From: greatest - i, To: greatest}, impl.Range{From: least, To: least + i}, impl.Range{From: least, To: greatest}, impl.Range{From: greatest, To: least})
	}
	rangesHeardAre(t, m, 10, ranges, nil)
	ranges = append(ranges, impl.Range{From: 13, To: 14}, impl.Range{From: 14, To: 42}, impl.Range{From: 15, To: 42}, impl.Range{From: 20, To: 21})
	rangesHeardAre(t, m, 10, ranges, []impl.Range{{From: 13, To: 14}, {From: 15, To: 42}})
}

func TestP47AllPairsOfRanges(t *testing.T) {
	m := mouthWith(10, 9, 7, 9, nil)
	spans := shortSpans(-1, 8)
	for _, a := range spans {
		for _, b := range spans {
			ranges := rangesBehind(10, [][2]int{a, b})
			for _, at := range []int{10, 12, 17} {
				rangesHeardAre(t, m, at, ranges, rangesAsDefined(ranges, at, 17))
			}
		}
	}
}

func TestP47AllThreeRanges(t *testing.T) {
	m := mouthWith(10, 9, 5, 9, nil)
	spans := shortSpans(0, 5)
	for _, a := range spans {
		for _, b := range spans {
			for _, c := range spans {
				ranges := rangesBehind(10, [][2]int{a, b, c})
				rangesHeardAre(t, m, 10, ranges, rangesAsDefined(ranges, 10, 15))
			}
		}
	}
}

func TestP47WhatWasHeardIsForgottenAndNothingElse(t *testing.T) {
	for _, m := range sampleMouths() {
		for _, step := range []int{-40, -1, 0, 1, 2, m.Sent / 2, m.Sent - 1, m.Sent, m.Sent + 1, len(m.Keep), len(m.Keep) + 1, 40} {
			at := m.Heard + step
			isForgotten(t, m, at, 0, nil)
			isForgotten(t, m, at, m.Sent+1, m.Early)
			isForgotten(t, m, at, 255, rangesBehind(at, [][2]int{{0, 1}, {1, 2}, {3, 5}, {4, 6}}))
		}
	}
	for seed := 0; seed < 8000; seed++ {
		m := mixedMouth(seed)
		b := mixedBytes(seed+9, 8)
		ranges := rangesBehind(m.Heard, [][2]int{{int(b[0]) % 33, int(b[1]) % 33}, {int(b[2]) % 33, int(b[3]) % 33}, {int(b[4]) % 33, int(b[5]) % 33}})
		isForgotten(t, m, m.Heard+int(b[6])%36-2, int(b[7]), ranges)
	}
}

// isForgotten fails unless a mouth that hears something keeps what it kept without the bytes ahead of the place, and tells them no more.
func isForgotten(t *testing.T, m impl.Mouth, at int, room int, ranges []impl.Range) {
	t.Helper()
	want, more := mouthHeardAsDefined(m, at, room, ranges)
	mouthHearIs(t, m, at, room, ranges, want, more)
	got, n := impl.MouthHear(m, at, room, ranges)
	if at > 1000000 && at >= m.Heard && at <= m.Heard+m.Sent {
		return
	}
	if !impl.MouthOk(got) || got.Heard != m.Heard+n || got.Heard+got.Sent != m.Heard+m.Sent || !sameBytes(got.Keep, m.Keep[n:]) {
		t.Fatal(m, at, room, ranges, got, n)
	}
	_, next, _ := impl.MouthNext(got, 12)
	place, again := impl.MouthAgain(got, 12)
	if next != m.Heard+m.Sent || place != got.Heard || !sameBytes(again, m.Keep[n:n+len(again)]) {
		t.Fatal(m, at, got, next, place, again)
	}
	// Heard twice it is as once.
	mouthHearIs(t, got, at, room, ranges, got, 0)
}

func TestP47HeardOneByOneItIsTheSame(t *testing.T) {
	for _, m := range sampleMouths() {
		want, more := impl.MouthHear(m, m.Heard+m.Sent, 9, nil)
		if m.Heard+m.Sent > 1000000 {
			continue
		}
		now := m
		for step := 1; step <= m.Sent; step++ {
			next, n := impl.MouthHear(now, m.Heard+step, 9, m.Early)
			if n != 1 {
				t.Fatal(m, step, next, n)
			}
			now = next
		}
		mouthHearIs(t, now, m.Heard+m.Sent, 9, nil, want, 0)
		if more != m.Sent || len(want.Early) != 0 || want.Sent != 0 || !sameBytes(want.Keep, m.Keep[m.Sent:]) {
			t.Fatal(m, want, more)
		}
	}
}

func TestP47TheLastPlaces(t *testing.T) {
	m := impl.Mouth{Heard: 999998, Keep: []byte("abcdef"), Sent: 4, Room: 3, Early: []impl.Range{{From: 1000000, To: 1000002}}}
	mouthHearIs(t, m, 999998, 9, m.Early, impl.Mouth{Heard: 999998, Keep: []byte("abcdef"), Sent: 4, Room: 9, Early: m.Early}, 0)
	mouthHearIs(t, m, 999999, 9, m.Early, impl.Mouth{Heard: 999999, Keep: []byte("bcdef"), Sent: 3, Room: 9, Early: m.Early}, 1)
	mouthHearIs(t, m, 1000000, 9, m.Early, impl.Mouth{Heard: 1000000, Keep: []byte("cdef"), Sent: 2, Room: 9}, 2)
	mouthHearIs(t, m, 1000000, 9, []impl.Range{{From: 1000001, To: 1000002}}, impl.Mouth{Heard: 1000000, Keep: []byte("cdef"), Sent: 2, Room: 9, Early: []impl.Range{{From: 1000001, To: 1000002}}}, 2)
	mouthHearIs(t, m, 1000001, 9, nil, impl.Mouth{}, 0)
	mouthHearIs(t, m, 1000002, 9, m.Early, impl.Mouth{}, 0)
	// What was not sent is not heard, so nothing would be above the last place.
	mouthHearIs(t, m, 1000003, 9, nil, m, 0)
	last := impl.Mouth{Heard: 1000000, Keep: []byte("ab"), Sent: 1, Room: 3}
	mouthHearIs(t, last, 1000000, 9, nil, impl.Mouth{Heard: 1000000, Keep: []byte("ab"), Sent: 1, Room: 9}, 0)
	mouthHearIs(t, last, 1000001, 9, nil, impl.Mouth{}, 0)
	mouthHearIs(t, last, 1000002, 9, nil, last, 0)
	none := impl.Mouth{Heard: 1000000, Keep: []byte("ab"), Room: 3}
	mouthHearIs(t, none, 1000001, 9, nil, none, 0)
	for _, at := range noPlaces() {
		mouthHearIs(t, impl.Mouth{Heard: 5, Keep: []byte("ab"), Sent: 2}, at, 9, nil, impl.Mouth{Heard: 5, Keep: []byte("ab"), Sent: 2}, 0)
	}
}

func TestP47OtherRoomsAreNotHeard(t *testing.T) {
	for _, room := range noSegmentRooms() {
		for _, m := range sampleMouths() {
			for _, at := range []int{m.Heard - 1, m.Heard, m.Heard + m.Sent, m.Heard + m.Sent + 1} {
				mouthHearIs(t, m, at, room, m.Early, impl.Mouth{}, 0)
			}
		}
	}
}

func TestP47InvalidMouthsHearNothing(t *testing.T) {
	for _, m := range badMouths() {
		for _, at := range []int{-1, 0, 5, 6, m.Heard, 1000000, 1000001} {
			mouthHearIs(t, m, at, 9, nil, impl.Mouth{}, 0)
			mouthHearIs(t, m, at, 256, m.Early, impl.Mouth{}, 0)
			mouthHearIs(t, m, at, 0, []impl.Range{{From: 6, To: 7}}, impl.Mouth{}, 0)
		}
	}
}

// toldBytes are on the way from a mouth to an ear, and heardBack is on the way back.
type toldBytes struct {
	at   int
	data []byte
}

type heardBack struct {
	at     int
	room   int
	ranges []impl.Range
}

// talk is a mouth that tells a stream, which begins at a place, to an ear; with what is on the way, how much was written, and what was read.
type talk struct {
	begin   int
	stream  []byte
	written int
	mouth   impl.Mouth
	ear     impl.Ear
	told    []toldBytes
	back    []heardBack
	read    []byte
}

// talkNew returns a talk in which nothing was told yet.
func talkNew(begin int, stream []byte, room int, believed int) talk {
	return talk{
		begin:  begin,
		stream: stream,
		mouth:  impl.Mouth{Heard: begin, Room: believed},
		ear:    impl.Ear{Next: begin, Room: room},
	}
}

// talkWritten returns a talk after at most so many bytes more were written.
func talkWritten(k talk, many int) talk {
	if many > len(k.stream)-k.written {
		many = len(k.stream) - k.written
	}
	mouth, n := impl.MouthWrite(k.mouth, k.stream[k.written:k.written+many])
	k.mouth = mouth
	k.written += n
	return k
}

// talkTold returns a talk after new bytes went on the way, and talkAgain after bytes went again.
func talkTold(k talk, limit int) talk {
	mouth, at, b := impl.MouthNext(k.mouth, limit)
	k.mouth = mouth
	if len(b) > 0 {
		k.told = append(k.told, toldBytes{at: at, data: b})
	}
	return k
}

func talkAgain(k talk, limit int) talk {
	at, b := impl.MouthAgain(k.mouth, limit)
	if len(b) > 0 {
		k.told = append(k.told, toldBytes{at: at, data: b})
	}
	return k
}

// talkCame returns a talk after something that was told came to the ear, which tells what it waits for then.
func talkCame(k talk, came toldBytes) talk {
	k.ear = impl.EarHear(k.ear, came.at, came.data)
	return talkAnswered(k)
}

// talkAnswered returns a talk after the ear told what it waits for.
func talkAnswered(k talk) talk {
	k.back = append(k.back, heardBack{at: k.ear.Next, room: impl.EarFree(k.ear), ranges: impl.EarRanges(k.ear)})
	return k
}

// talkHeard returns a talk after the mouth heard something.
func talkHeard(k talk, came heardBack) talk {
	mouth, _ := impl.MouthHear(k.mouth, came.at, came.room, came.ranges)
	k.mouth = mouth
	return k
}

// talkRead returns a talk after at most so many bytes were read.
func talkRead(k talk, many int) talk {
	ear, b := impl.EarRead(k.ear, many)
	k.ear = ear
	k.read = append(k.read, b...)
	return k
}

// talkStep returns a talk after one thing happened that the bytes tell: what is on the way comes, in whatever order, may come once more later, and may be lost.
func talkStep(k talk, what byte, which byte, more byte) talk {
	switch what % 12 {
	case 0, 1:
		return talkWritten(k, int(more)%15)
	case 2, 3:
		return talkTold(k, 1+int(more)%12)
	case 4:
		return talkAgain(k, 1+int(more)%12)
	case 5, 6, 7:
		return toldTaken(k, which, more)
	case 8, 9, 10:
		return backTaken(k, which, more)
	}
	return talkRead(k, int(more)%9)
}

// toldTaken returns a talk after one of the bytes on the way came, was lost, or came and stays on the way, too.
func toldTaken(k talk, which byte, more byte) talk {
	if len(k.told) == 0 {
		return k
	}
	i := int(which) % len(k.told)
	came := k.told[i]
	if more%4 != 0 {
		k.told = append(append([]toldBytes{}, k.told[:i]...), k.told[i+1:]...)
	}
	if more%4 == 1 {
		return k
	}
	return talkCame(k, came)
}

// backTaken returns a talk after the mouth heard one thing on the way back, or it was lost, or was heard and stays on the way, too.
func backTaken(k talk, which byte, more byte) talk {
	if len(k.back) == 0 {
		return k
	}
	i := int(which) % len(k.back)
	came := k.back[i]
	if more%4 != 0 {
		k.back = append(append([]heardBack{}, k.back[:i]...), k.back[i+1:]...)
	}
	if more%4 == 1 {
		return k
	}
	return talkHeard(k, came)
}

// talkIsRight fails unless what was read is a beginning of what was told, and what is kept on both sides is bounded, and is what was written.
func talkIsRight(t *testing.T, k talk) {
	t.Helper()
	if !impl.MouthOk(k.mouth) || !impl.EarOk(k.ear) || len(k.mouth.Keep) > 32 || len(k.ear.Got)+len(k.ear.Far) > k.ear.Room {
		t.Fatal(k)
	}
	taken := joined(k.read, k.ear.Got)
	told := k.mouth.Heard + k.mouth.Sent - k.begin
	if told > k.written || len(taken) > told || !sameBytes(taken, k.stream[:len(taken)]) || k.ear.Next != k.begin+len(taken) {
		t.Fatal("what is read is not what was told", k)
	}
	heard := k.mouth.Heard - k.begin
	if heard > len(taken) || !sameBytes(k.mouth.Keep, k.stream[heard:k.written]) {
		t.Fatal("something else is kept, or was heard", k)
	}
	cameEarly(t, k)
}

// cameEarly fails unless all that a mouth knows to have come early is kept by the ear, or came in order meanwhile, and all early bytes are those of the stream.
func cameEarly(t *testing.T, k talk) {
	t.Helper()
	for _, r := range k.mouth.Early {
		for place := r.From; place < r.To; place++ {
			if place >= k.ear.Next && !isEarly(k.ear, place) {
				t.Fatal("it did not come", k, place)
			}
		}
	}
	for _, f := range k.ear.Far {
		if f.B != k.stream[f.At-k.begin] {
			t.Fatal("another byte came early", k)
		}
	}
}

// talkCalm returns a talk after nothing was lost any more, so that all of the stream is told, read, and heard.
func talkCalm(t *testing.T, k talk) talk {
	t.Helper()
	for turn := 0; turn < 40*len(k.stream) && k.mouth.Heard < k.begin+len(k.stream); turn++ {
		k = talkWritten(k, 32)
		k = talkAgain(talkTold(k, 12), 12)
		for _, came := range k.told {
			k = talkCame(k, came)
		}
		k.told = nil
		k = talkAnswered(talkRead(k, 32))
		for _, came := range k.back {
			k = talkHeard(k, came)
		}
		k.back = nil
		talkIsRight(t, k)
	}
	return k
}

func TestP48WhateverIsLostWhatIsReadIsWhatWasTold(t *testing.T) {
	whole := 0
	for seed := 0; seed < 150; seed++ {
		stream := mixedBytes(seed, 50+seed%9)
		for _, begin := range []int{0, 300, 65500, 1000000 - len(stream)} {
			for _, room := range []int{1, 2, 7, 13, 32} {
				// A mouth may believe that there is more room than there is, or less.
				k := talkNew(begin, stream, room, (seed*7+room)%40)
				b := mixedBytes(seed+room, 600)
				for i := 0; i < 600; i += 3 {
					k = talkStep(k, b[i], b[i+1], b[i+2])
					talkIsRight(t, k)
				}
				if len(k.read) == len(stream) {
					whole++
				}
				k = talkCalm(t, k)
				if !sameBytes(talkRead(k, 32).read, stream) || len(k.mouth.Keep) != 0 || k.mouth.Heard != begin+len(stream) {
					t.Fatal("not all of it arrives", seed, begin, room, k)
				}
			}
		}
	}
	// Some were read as a whole while things were lost, so the talks went far enough.
	if whole == 0 {
		t.Fatal("no stream was read as a whole")
	}
}

func TestP48OnlyWhatIsMissingGoesAgain(t *testing.T) {
	k := talkWritten(talkNew(100, []byte("hello, world"), 12, 12), 32)
	for i := 0; i < 4; i++ {
		k = talkTold(k, 3)
	}
	// The first piece and the third one are lost.
	k = talkCame(k, k.told[1])
	k = talkCame(k, k.told[3])
	k = talkHeard(k, k.back[1])
	if !sameRanges(k.mouth.Early, []impl.Range{{From: 103, To: 106}, {From: 109, To: 112}}) {
		t.Fatal(k.mouth)
	}
	againIs(t, k.mouth, 12, 100, []byte("hel"))
	k = talkCame(k, toldBytes{at: 100, data: []byte("hel")})
	k = talkHeard(k, k.back[2])
	againIs(t, k.mouth, 12, 106, []byte(" wo"))
	// What told of less came later, and is no news.
	k = talkHeard(k, k.back[0])
	againIs(t, k.mouth, 12, 106, []byte(" wo"))
	k = talkCame(k, toldBytes{at: 106, data: []byte(" wo")})
	k = talkRead(talkHeard(k, k.back[3]), 32)
	againIs(t, k.mouth, 12, 112, nil)
	if string(k.read) != "hello, world" || len(k.mouth.Keep) != 0 || k.mouth.Room != 0 {
		t.Fatal(k)
	}
}

func TestP48WithoutRoomNothingNewGoes(t *testing.T) {
	k := talkTold(talkWritten(talkNew(100, []byte("hello, world"), 4, 4), 32), 12)
	k = talkCame(k, k.told[0])
	k = talkHeard(k, k.back[0])
	nextIs(t, k.mouth, 12, k.mouth, 104, nil)
	againIs(t, k.mouth, 12, 104, nil)
	// Room is told anew once something was read.
	k = talkAnswered(talkRead(k, 3))
	k = talkTold(talkHeard(k, k.back[1]), 12)
	if len(k.told) != 2 || k.told[1].at != 104 || string(k.told[1].data) != "o, " {
		t.Fatal(k.told)
	}
	// Late, and from a time at which there was no room, it makes the room less than what was sent.
	k = talkHeard(k, k.back[0])
	nextIs(t, k.mouth, 12, k.mouth, 107, nil)
	againIs(t, k.mouth, 12, 104, []byte("o, "))
	talkIsRight(t, k)
}

// mouthCopied returns a mouth in new memory, with room behind each list that is filled. mouthSpoiled turns all that there is in a mouth, and fills the room behind each list.
func mouthCopied(m impl.Mouth) impl.Mouth {
	m.Early = rangesWithRoom(m.Early)
	m.Keep = joined(m.Keep, filledBytes(9, 80))[:len(m.Keep)]
	return m
}

func mouthSpoiled(m impl.Mouth) {
	rangesSpoiled(m.Early)
	bytesSpoiled(m.Keep)
}

// mouthIsKept fails if a mouth that was handed in (mouthCopied) was written, or the room behind it.
func mouthIsKept(t *testing.T, given impl.Mouth, m impl.Mouth) {
	t.Helper()
	if !sameMouth(given, m) {
		t.Fatal("the mouth was written", m, given)
	}
	rangesAreKept(t, given.Early, m.Early)
	if !sameBytes(given.Keep[:len(m.Keep)+80][len(m.Keep):], filledBytes(9, 80)) {
		t.Fatal("behind the bytes that are kept", m)
	}
}

func TestChapter13WritesNoArguments(t *testing.T) {
	for _, m := range append(sampleMouths(), badMouths()...) {
		given := mouthCopied(m)
		impl.MouthOk(given)
		room := joined([]byte("abc"), filledBytes(9, 80))
		impl.MouthWrite(given, room[:3])
		ranges := rangesBehind(m.Heard, [][2]int{{1, 2}, {4, 3}, {3, 5}})
		heard := rangesWithRoom(ranges)
		for _, at := range []int{-1, m.Heard, m.Heard + 1, m.Heard + m.Sent} {
			impl.MouthHear(given, at, 9, heard)
		}
		for _, limit := range []int{0, 1, 12} {
			impl.MouthNext(given, limit)
			impl.MouthAgain(given, limit)
		}
		mouthIsKept(t, given, m)
		rangesAreKept(t, heard, ranges)
		if !sameBytes(room, joined([]byte("abc"), filledBytes(9, 80))) {
			t.Fatal("the bytes were written", m, room)
		}
	}
}

func TestChapter13MouthsThatAreWrittenAreNewMemory(t *testing.T) {
	for _, m := range sampleMouths() {
		for _, many := range []int{0, 1, 40} {
			data := mixedBytes(many, many)
			given, room := mouthCopied(m), joined(data, filledBytes(9, 80))
			got, n := impl.MouthWrite(given, room[:many])
			mouthSpoiled(given)
			bytesSpoiled(room)
			want := m
			want.Keep = joined(m.Keep, data[:n])
			if !sameMouth(got, want) {
				t.Fatal("the answer has memory of what was handed in", m, many, got)
			}
			given, room = mouthCopied(m), joined(data, filledBytes(9, 80))
			got, _ = impl.MouthWrite(given, room[:many])
			mouthSpoiled(got)
			mouthIsKept(t, given, m)
			if !sameBytes(room, joined(data, filledBytes(9, 80))) {
				t.Fatal("the bytes have memory of the answer", m, many)
			}
		}
	}
}

func TestChapter13WhatIsToldIsNewMemory(t *testing.T) {
	for _, m := range sampleMouths() {
		want, told := nextAsDefined(m, 12)
		given := mouthCopied(m)
		got, _, b := impl.MouthNext(given, 12)
		mouthSpoiled(given)
		if !sameMouth(got, want) || !sameBytes(b, told) {
			t.Fatal("the answer has memory of what was handed in", m, got, b)
		}
		given = mouthCopied(m)
		got, _, b = impl.MouthNext(given, 12)
		bytesSpoiled(b)
		if !sameMouth(got, want) {
			t.Fatal("the mouth has memory of the bytes", m, got)
		}
		got, _, b = impl.MouthNext(given, 12)
		mouthSpoiled(got)
		if !sameBytes(b, told) {
			t.Fatal("the bytes have memory of the mouth", m, b)
		}
		mouthIsKept(t, given, m)
	}
}

func TestChapter13WhatIsToldAgainIsNewMemory(t *testing.T) {
	for _, m := range sampleMouths() {
		given := mouthCopied(m)
		_, b := impl.MouthAgain(given, 12)
		mouthSpoiled(given)
		if !sameBytes(b, againAsDefined(m, 12)) {
			t.Fatal("the bytes have memory of the mouth", m, b)
		}
		given = mouthCopied(m)
		_, b = impl.MouthAgain(given, 12)
		bytesSpoiled(b)
		mouthIsKept(t, given, m)
	}
}

func TestChapter13MouthsThatHearAreNewMemory(t *testing.T) {
	for _, m := range sampleMouths() {
		for _, at := range []int{m.Heard - 1, m.Heard, m.Heard + 1, m.Heard + m.Sent} {
			ranges := rangesBehind(at, [][2]int{{1, 2}, {4, 3}, {3, 5}})
			given, heard := mouthCopied(m), rangesWithRoom(ranges)
			got, _ := impl.MouthHear(given, at, 9, heard)
			mouthSpoiled(given)
			rangesSpoiled(heard)
			if want, _ := mouthHeardAsDefined(m, at, 9, ranges); !sameMouth(got, want) {
				t.Fatal("the answer has memory of what was handed in", m, at, got)
			}
			given, heard = mouthCopied(m), rangesWithRoom(ranges)
			got, _ = impl.MouthHear(given, at, 9, heard)
			mouthSpoiled(got)
			mouthIsKept(t, given, m)
			rangesAreKept(t, heard, ranges)
		}
	}
}
