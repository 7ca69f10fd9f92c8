package tests

import (
	"testing"

	"loop.example/netstack/impl"
)

// roomEdges and noSegmentRooms return rooms of segments, both ends and what is next to them among them, and numbers out of range.
func roomEdges() []int {
	return []int{0, 1, 9, 127, 128, 254, 255}
}

func noSegmentRooms() []int {
	return []int{least, -65536, -256, -255, -1, 256, 257, 511, 65536, greatest}
}

// segmentMarks returns segments without anything but marks: all marks that a segment can have together.
func segmentMarks() []impl.Segment {
	return []impl.Segment{
		{},
		{First: true},
		{Heard: true},
		{First: true, Heard: true},
		{Last: true},
		{First: true, Last: true},
		{Heard: true, Last: true},
		{First: true, Heard: true, Last: true},
		{Reset: true},
		{Heard: true, Reset: true},
	}
}

// rangeLists returns lists of no range, one range and two ranges: also such that go round, that are empty, that are the same, that are in no order, and at both ends.
func rangeLists() [][]impl.Range {
	return [][]impl.Range{
		nil,
		{{From: 10, To: 12}},
		{{From: 0, To: 0}},
		{{From: 65535, To: 65535}},
		{{From: 0, To: 65535}},
		{{From: 65535, To: 0}},
		{{From: 65530, To: 4}},
		{{From: 256, To: 255}},
		{{From: 1, To: 256}, {From: 513, To: 772}},
		{{From: 65530, To: 65533}, {From: 65535, To: 2}},
		{{From: 40, To: 50}, {From: 10, To: 12}},
		{{From: 7, To: 9}, {From: 7, To: 9}},
		{{From: 0, To: 0}, {From: 65535, To: 65535}},
		{{From: 65535, To: 65535}, {From: 0, To: 0}},
	}
}

// segmentWith returns a segment with the marks of another one, and, as far as these allow them, what was heard, and bytes.
func segmentWith(marks impl.Segment, ack int, room int, ranges []impl.Range, data []byte) impl.Segment {
	out := marks
	if out.Heard {
		out.Ack = ack
		out.Room = room
		out.Ranges = ranges
	}
	if !out.Reset {
		out.Data = data
	}
	return out
}

// sampleSegments returns segments of all marks, lengths and numbers of ranges, with all numbers at and between both ends.
func sampleSegments() []impl.Segment {
	out := []impl.Segment{
		{From: 1, To: 2, Seq: 300, Ack: 7, Room: 9, Heard: true, Last: true, Ranges: []impl.Range{{From: 10, To: 12}}, Data: []byte("ab")},
		// Between 65277 and 0 its sum is 0.
		{From: 1, To: 2},
	}
	for i, marks := range segmentMarks() {
		for k, ranges := range rangeLists() {
			for _, many := range []int{0, 1, 2, 11, 12} {
				at := i*14*5 + k*5 + many
				s := segmentWith(marks, seqEdges()[at%20], roomEdges()[at%7], ranges, mixedBytes(at, many))
				s.From = portEdges()[at%7]
				s.To = portEdges()[(at+k)%7]
				s.Seq = seqEdges()[(at+7*k)%20]
				out = append(out, s)
			}
		}
	}
	for many := 0; many <= 12; many++ {
		out = append(out, impl.Segment{From: 7, To: 9, Seq: many, Data: filledBytes(0, many)})
		out = append(out, impl.Segment{From: 255, To: 255, Seq: 65535, Ack: 65535, Room: 255, Heard: true, Data: filledBytes(255, many)})
	}
	return out
}

// mixedSegment returns a segment in which nothing is in an order that can be seen, the same one for the same seed.
func mixedSegment(seed int) impl.Segment {
	b := mixedBytes(seed, 20)
	marks := segmentMarks()[int(b[0])%10]
	ranges := []impl.Range{}
	for i := 0; i < int(b[1])%3; i++ {
		at := 2 + 4*i
		ranges = append(ranges, impl.Range{From: int(b[at])*256 + int(b[at+1]), To: int(b[at+2])*256 + int(b[at+3])})
	}
	s := segmentWith(marks, int(b[10])*256+int(b[11]), int(b[12]), ranges, mixedBytes(seed+1, int(b[13])%13))
	s.From = 1 + int(b[14])%255
	s.To = 1 + int(b[15])%255
	s.Seq = int(b[16])*256 + int(b[17])
	return s
}

// badSegments returns segments that are none: one thing is out of range or told without its mark, or all are.
func badSegments() []impl.Segment {
	out := []impl.Segment{
		{},
		{First: true},
		{Heard: true},
		{From: -1, To: 256, Seq: -1, Ack: 65536, Room: 256, First: true, Reset: true, Ranges: make([]impl.Range, 3), Data: filledBytes(1, 13)},
	}
	for _, v := range noPorts() {
		out = append(out, impl.Segment{From: v, To: 9}, impl.Segment{From: 7, To: v}, impl.Segment{From: v, To: v, Heard: true, Data: []byte("hi")})
	}
	for _, v := range noSeqs() {
		out = append(out, impl.Segment{From: 7, To: 9, Seq: v}, impl.Segment{From: 7, To: 9, Seq: v, First: true})
		out = append(out, impl.Segment{From: 7, To: 9, Ack: v, Heard: true}, impl.Segment{From: 7, To: 9, Ack: v})
		for _, r := range []impl.Range{{From: v, To: 9}, {From: 9, To: v}, {From: v, To: v}} {
			out = append(out, impl.Segment{From: 7, To: 9, Heard: true, Ranges: []impl.Range{r}})
			out = append(out, impl.Segment{From: 7, To: 9, Heard: true, Ranges: []impl.Range{{From: 1, To: 2}, r}})
			out = append(out, impl.Segment{From: 7, To: 9, Heard: true, Ranges: []impl.Range{r, {From: 1, To: 2}}})
		}
	}
	for _, v := range noSegmentRooms() {
		out = append(out, impl.Segment{From: 7, To: 9, Room: v, Heard: true}, impl.Segment{From: 7, To: 9, Room: v})
	}
	for _, many := range []int{3, 4, 255, 256, 257, 300} {
		out = append(out, impl.Segment{From: 7, To: 9, Heard: true, Ranges: make([]impl.Range, many)})
	}
	for _, many := range []int{13, 14, 24, 255, 256, 257, 268, 65536} {
		out = append(out, impl.Segment{From: 7, To: 9, Data: mixedBytes(many, many)})
		out = append(out, impl.Segment{From: 7, To: 9, First: true, Heard: true, Data: mixedBytes(many, many)})
	}
	out = append(out, toldUnheard()...)
	return append(out, resetWithMore()...)
}

// marked returns a segment with the marks that a number in 0..15 adds up.
func marked(s impl.Segment, marks int) impl.Segment {
	s.First = marks%2 == 1
	s.Heard = marks/2%2 == 1
	s.Last = marks/4%2 == 1
	s.Reset = marks/8 == 1
	return s
}

// unheard returns a segment without Heard that tells nothing of what was heard.
func unheard(s impl.Segment) impl.Segment {
	s.Heard = false
	s.Ack = 0
	s.Room = 0
	s.Ranges = nil
	return s
}

// between7And9 returns a segment from port 7 to port 9.
func between7And9(s impl.Segment) impl.Segment {
	s.From = 7
	s.To = 9
	return s
}

// toldUnheard returns segments without Heard that tell what was heard.
func toldUnheard() []impl.Segment {
	out := []impl.Segment{}
	for _, marks := range segmentMarks() {
		s := unheard(between7And9(marks))
		for _, v := range []int{1, 2, 255, 256, 32768, 65535} {
			s.Ack = v
			out = append(out, s)
		}
		s.Room = 1
		out = append(out, s)
		s.Ack = 0
		for _, v := range []int{1, 2, 128, 255} {
			s.Room = v
			out = append(out, s)
		}
		s.Room = 0
		for _, ranges := range rangeLists()[1:] {
			s.Ranges = ranges
			out = append(out, s)
		}
	}
	return out
}

// resetWithMore returns segments with Reset, and with First, with Last or with bytes, or with some of these.
func resetWithMore() []impl.Segment {
	out := []impl.Segment{}
	for _, marks := range segmentMarks()[:8] {
		for _, data := range [][]byte{nil, {0}, []byte("hi"), mixedBytes(1, 12)} {
			if marks.First || marks.Last || len(data) > 0 {
				s := between7And9(marks)
				s.Reset = true
				s.Data = data
				out = append(out, s)
			}
		}
	}
	return out
}

// sameRanges and sameSegment report whether both are the same; none are the same as nil.
func sameRanges(a []impl.Range, b []impl.Range) bool {
	if len(a) != len(b) {
		return false
	}
	for i := range a {
		if a[i] != b[i] {
			return false
		}
	}
	return true
}

func sameSegment(a impl.Segment, b impl.Segment) bool {
	numbers := a.From == b.From && a.To == b.To && a.Seq == b.Seq && a.Ack == b.Ack && a.Room == b.Room
	marks := a.First == b.First && a.Heard == b.Heard && a.Last == b.Last && a.Reset == b.Reset
	return numbers && marks && sameRanges(a.Ranges, b.Ranges) && sameBytes(a.Data, b.Data)
}

// segmentOkAsDefined tells by the definition what SegmentOk tells.
func segmentOkAsDefined(s impl.Segment) bool {
	ok := s.From >= 1 && s.From <= 255 && s.To >= 1 && s.To <= 255 && s.Room >= 0 && s.Room <= 255
	ok = ok && s.Seq >= 0 && s.Seq <= 65535 && s.Ack >= 0 && s.Ack <= 65535
	for _, r := range s.Ranges {
		ok = ok && r.From >= 0 && r.From <= 65535 && r.To >= 0 && r.To <= 65535
	}
	ok = ok && len(s.Ranges) <= 2 && len(s.Data) <= 12
	if !s.Heard {
		ok = ok && s.Ack == 0 && s.Room == 0 && len(s.Ranges) == 0
	}
	if s.Reset {
		ok = ok && !s.First && !s.Last && len(s.Data) == 0
	}
	return ok
}

// markByte returns the byte of marks of a segment by its definition.
func markByte(s impl.Segment) byte {
	out := byte(0)
	for i, is := range []bool{s.First, s.Heard, s.Last, s.Reset} {
		if is {
			out |= 1 << i
		}
	}
	return out
}

// segmentTold returns the bytes of a segment but its sum by their definition, with its marks, the number of its ranges and that of its bytes as told.
func segmentTold(s impl.Segment, marks byte, ranges byte, count byte) []byte {
	out := []byte{byte(s.From), byte(s.To), byte(s.Seq / 256), byte(s.Seq % 256), byte(s.Ack / 256), byte(s.Ack % 256), byte(s.Room), marks, ranges}
	for _, r := range s.Ranges {
		out = append(out, byte(r.From/256), byte(r.From%256), byte(r.To/256), byte(r.To%256))
	}
	return joined(append(out, count), s.Data)
}

// segmentAsBytes returns the bytes of a segment between two addresses by their definition, also of one that is not ok.
func segmentAsBytes(s impl.Segment, from int, to int) []byte {
	return betweenBytes(from, to, segmentTold(s, markByte(s), byte(len(s.Ranges)), byte(len(s.Data))))
}

// segmentOkIs fails unless SegmentOk tells what is wanted of a segment.
func segmentOkIs(t *testing.T, s impl.Segment, want bool) {
	t.Helper()
	if got := impl.SegmentOk(s); got != want {
		t.Fatal(s, got)
	}
}

// segmentBytesAre fails unless a segment between two addresses has the bytes want, and these are it.
func segmentBytesAre(t *testing.T, s impl.Segment, from int, to int, want []byte) {
	t.Helper()
	if got := impl.SegmentBytes(s, from, to); !sameBytes(got, want) {
		t.Fatal(s, from, to, got, want)
	}
	segmentIsRead(t, want, from, to, s)
}

// hasNoSegmentBytes fails if there are bytes of a segment between two addresses.
func hasNoSegmentBytes(t *testing.T, s impl.Segment, from int, to int) {
	t.Helper()
	if got := impl.SegmentBytes(s, from, to); len(got) != 0 {
		t.Fatal(s, from, to, got)
	}
}

// segmentIsRead fails unless bytes between two addresses are the segment.
func segmentIsRead(t *testing.T, b []byte, from int, to int, want impl.Segment) {
	t.Helper()
	if s, ok := impl.SegmentFrom(b, from, to); !ok || !sameSegment(s, want) {
		t.Fatal(b, from, to, s, ok, want)
	}
}

// isNoSegment fails if bytes between two addresses are a segment, or if what stands beside false is not nothing.
func isNoSegment(t *testing.T, b []byte, from int, to int) {
	t.Helper()
	if s, ok := impl.SegmentFrom(b, from, to); ok || !sameSegment(s, impl.Segment{}) {
		t.Fatal(b, from, to, s, ok)
	}
}

// takes fails unless a segment takes so many numbers.
func takes(t *testing.T, s impl.Segment, want int) {
	t.Helper()
	if got := impl.SegmentLong(s); got != want {
		t.Fatal(s, got, want)
	}
}

func TestP39KnownSegmentsAsBytes(t *testing.T) {
	s := impl.Segment{From: 1, To: 2, Seq: 300, Ack: 7, Room: 9, Heard: true, Last: true, Ranges: []impl.Range{{From: 10, To: 12}}, Data: []byte("ab")}
	segmentBytesAre(t, s, 5, 6, []byte{1, 2, 1, 44, 0, 7, 9, 6, 1, 0, 10, 0, 12, 2, 'a', 'b', 124, 85})
	s = impl.Segment{From: 7, To: 9, Seq: 65535, First: true}
	segmentBytesAre(t, s, 258, 772, []byte{7, 9, 255, 255, 0, 0, 0, 1, 0, 0, 244, 239})
	s = impl.Segment{From: 7, To: 9, Data: []byte("h")}
	segmentBytesAre(t, s, 10, 20, []byte{7, 9, 0, 0, 0, 0, 0, 0, 0, 1, 'h', 144, 215})
	s = impl.Segment{From: 255, To: 1, Seq: 65535, Ack: 65535, Room: 255, First: true, Heard: true, Last: true, Ranges: []impl.Range{{From: 65530, To: 4}, {From: 0, To: 65535}}, Data: []byte("hello, world")}
	want := []byte{255, 1, 255, 255, 255, 255, 255, 7, 2, 255, 250, 0, 4, 0, 0, 255, 255, 12, 'h', 'e', 'l', 'l', 'o', ',', ' ', 'w', 'o', 'r', 'l', 'd', 192, 157}
	segmentBytesAre(t, s, 65535, 0, want)
	s = impl.Segment{From: 9, To: 7, Seq: 5, Ack: 65535, Heard: true, Reset: true}
	segmentBytesAre(t, s, 1, 2, []byte{9, 7, 0, 5, 255, 255, 0, 10, 0, 0, 246, 230})
	s = impl.Segment{From: 9, To: 7, Seq: 5, Reset: true}
	segmentBytesAre(t, s, 1, 2, []byte{9, 7, 0, 5, 0, 0, 0, 8, 0, 0, 246, 232})
	// The sum of all that is 65535, so its complement is 0.
	segmentBytesAre(t, impl.Segment{From: 1, To: 2}, 65277, 0, []byte{1, 2, 0, 0, 0, 0, 0, 0, 0, 0, 0, 0})
}

func TestP39SegmentsAreAsDefined(t *testing.T) {
	for i, s := range sampleSegments() {
		for k, from := range addrEdges() {
			to := addrEdges()[(i+k)%11]
			segmentBytesAre(t, s, from, to, segmentAsBytes(s, from, to))
		}
	}
	for seed := 0; seed < 20000; seed++ {
		s := mixedSegment(seed)
		from, to := mixedPlace(seed)%65536, mixedPlace(seed+20000)%65536
		segmentBytesAre(t, s, from, to, segmentAsBytes(s, from, to))
	}
}

func TestP39MarksAloneCanBeReadBack(t *testing.T) {
	want := []byte{0, 1, 2, 3, 4, 5, 6, 7, 8, 10}
	for i, s := range segmentMarks() {
		for _, data := range [][]byte{nil, {0}, mixedBytes(i, 12)} {
			if s.Reset && len(data) > 0 {
				continue
			}
			s = between7And9(s)
			s.Seq = 513
			s.Data = data
			b := impl.SegmentBytes(s, 10, 20)
			if len(b) != 12+len(data) || b[7] != want[i] {
				t.Fatal(s, b)
			}
			segmentIsRead(t, b, 10, 20, s)
		}
	}
}

func TestP39PortsCanBeReadBack(t *testing.T) {
	for from := 1; from <= 255; from++ {
		for to := 1; to <= 255; to++ {
			s := impl.Segment{From: from, To: to, Seq: from * to, Data: mixedBytes(from, to%3)}
			segmentBytesAre(t, s, 10, 20, segmentAsBytes(s, 10, 20))
		}
	}
}

func TestP39NumbersCanBeReadBack(t *testing.T) {
	for v := 0; v <= 65535; v++ {
		s := impl.Segment{From: 7, To: 9, Seq: v, Ack: 65535 - v, Room: v % 256, Heard: true}
		segmentBytesAre(t, s, 10, 20, segmentAsBytes(s, 10, 20))
		s = impl.Segment{From: 7, To: 9, Heard: true, Ranges: []impl.Range{{From: v, To: 65535 - v}, {From: 65535 - v, To: v}}}
		segmentBytesAre(t, s, v, 65535-v, segmentAsBytes(s, v, 65535-v))
	}
}

func TestP39NoRangeOneAndTwo(t *testing.T) {
	for _, ranges := range rangeLists() {
		for many := 0; many <= 12; many++ {
			s := impl.Segment{From: 7, To: 9, Heard: true, Ranges: ranges, Data: mixedBytes(many, many)}
			if b := impl.SegmentBytes(s, 10, 20); len(b) != 12+4*len(ranges)+many {
				t.Fatal(s, b)
			}
			segmentBytesAre(t, s, 10, 20, segmentAsBytes(s, 10, 20))
		}
	}
}

func TestP39SegmentsStrayNowhere(t *testing.T) {
	for i, s := range sampleSegments() {
		for k, from := range addrEdges() {
			to := addrEdges()[(i+k)%11]
			b := impl.SegmentBytes(s, from, to)
			for _, by := range []int{1, 2, 255, 256, 257, 4096, 32768} {
				isNoSegment(t, b, from+by, to)
				isNoSegment(t, b, from-by, to)
				isNoSegment(t, b, from, to+by)
				isNoSegment(t, b, from, to-by)
				// Both are counted, so those that are further off together do not do.
				isNoSegment(t, b, from+by, to+by)
				isNoSegment(t, b, from-by, to-by)
			}
		}
	}
}

func TestP39OfAllAddressesJustOneHasTheSum(t *testing.T) {
	s := impl.Segment{From: 7, To: 9, Seq: 300, First: true, Data: []byte("abc")}
	b := impl.SegmentBytes(s, 4660, 772)
	for addr := -1; addr <= 65536; addr++ {
		if addr != 4660 {
			isNoSegment(t, b, addr, 772)
		}
		if addr != 772 {
			isNoSegment(t, b, 4660, addr)
		}
	}
}

func TestP39TheSumCountsWhatIsAddedUpAlone(t *testing.T) {
	// Sums do not hang on where pairs stand, and 0 and 65535 count as one: there the segment is the same.
	s := impl.Segment{From: 7, To: 9, Seq: 300, First: true, Data: []byte("abc")}
	segmentIsRead(t, impl.SegmentBytes(s, 4660, 772), 772, 4660, s)
	segmentIsRead(t, impl.SegmentBytes(s, 4660, 772), 4661, 771, s)
	segmentIsRead(t, impl.SegmentBytes(s, 0, 65535), 65535, 0, s)
}

func TestP39OtherSegmentsHaveNoBytes(t *testing.T) {
	for _, s := range badSegments() {
		for _, addr := range []int{0, 3, 65535} {
			hasNoSegmentBytes(t, s, addr, 65535-addr)
		}
	}
	for _, s := range sampleSegments() {
		for _, addr := range noAddrs() {
			hasNoSegmentBytes(t, s, addr, 12)
			hasNoSegmentBytes(t, s, 12, addr)
			hasNoSegmentBytes(t, s, addr, addr)
		}
	}
}

func TestP39SegmentsOfAllLengths(t *testing.T) {
	for many := 0; many <= 40; many++ {
		for _, s := range segmentMarks()[:8] {
			s = between7And9(s)
			s.Data = mixedBytes(many, many)
			if many <= 12 {
				segmentBytesAre(t, s, 1, 3, segmentAsBytes(s, 1, 3))
			} else {
				hasNoSegmentBytes(t, s, 1, 3)
			}
		}
	}
}

func TestP40WhatIsReadWasSent(t *testing.T) {
	read := 0
	for seed := 0; seed < 60000; seed++ {
		s := mixedSegment(seed)
		turned := mixedBytes(seed+60000, 10)
		// Some numbers are told as others, of which some make a segment that there is not.
		if turned[0]%2 == 1 {
			s.From = int(turned[1]) % 3
			s.To = int(turned[2]) % 3
		}
		if turned[3]%4 == 1 {
			s.Ack = int(turned[4]) % 2
			s.Room = int(turned[5]) % 2
		}
		marks, ranges, count := markByte(s), byte(len(s.Ranges)), byte(len(s.Data))
		if turned[6]%4 == 1 {
			marks = turned[7] % 20
		}
		if turned[6]%8 == 2 {
			ranges = (ranges + turned[7]) % 4
		}
		if turned[6]%8 == 3 {
			count += turned[7]%3 - 1
		}
		b := betweenBytes(seed, 65535-seed, segmentTold(s, marks, ranges, count))
		got, ok := impl.SegmentFrom(b, seed, 65535-seed)
		if !ok {
			isNoSegment(t, b, seed, 65535-seed)
			continue
		}
		read++
		segmentOkIs(t, got, true)
		segmentBytesAre(t, got, seed, 65535-seed, b)
		if marks > 15 {
			t.Fatal("marks that there are not", b, got)
		}
	}
	if read < 10000 || read > 50000 {
		t.Fatal("too few or too many segments were read", read)
	}
}

func TestP40ATurnedBitIsNoticed(t *testing.T) {
	for _, s := range sampleSegments() {
		for _, from := range []int{0, 12, 65277, 65535} {
			b := impl.SegmentBytes(s, from, 0)
			for at := range b {
				for bit := 0; bit < 8; bit++ {
					isNoSegment(t, bitTurned(b, at, bit), from, 0)
				}
			}
		}
	}
}

func TestP40AByteLessOrMoreIsNoSegment(t *testing.T) {
	for _, s := range sampleSegments() {
		b := impl.SegmentBytes(s, 12, 65530)
		for many := 0; many < len(b); many++ {
			isNoSegment(t, b[:many], 12, 65530)
			isNoSegment(t, b[len(b)-many:], 12, 65530)
		}
		for x := 0; x <= 255; x++ {
			isNoSegment(t, joined(b, []byte{byte(x)}), 12, 65530)
		}
		isNoSegment(t, joined([]byte{0}, b), 12, 65530)
		isNoSegment(t, joined(b, b), 12, 65530)
		isNoSegment(t, joined(b, filledBytes(0, 256)), 12, 65530)
		isNoSegment(t, joined(b, filledBytes(0, 65536)), 12, 65530)
	}
}

func TestP40AByteLessOrMoreWithARightSum(t *testing.T) {
	for _, s := range sampleSegments() {
		b := impl.SegmentBytes(s, 12, 65530)
		told := b[:len(b)-2]
		segmentIsRead(t, betweenBytes(12, 65530, told), 12, 65530, s)
		for many := 0; many < len(told); many++ {
			isNoSegment(t, betweenBytes(12, 65530, told[:many]), 12, 65530)
		}
		for _, many := range []int{1, 2, 3, 4, 8, 256} {
			isNoSegment(t, betweenBytes(12, 65530, joined(told, filledBytes(0, many))), 12, 65530)
		}
	}
}

func TestP40FewerBytesThanAHeadAndASum(t *testing.T) {
	isNoSegment(t, nil, 1, 3)
	isNoSegment(t, nil, 0, 0)
	isNoSegment(t, nil, -1, 65536)
	for many := 0; many < 12; many++ {
		for x := 0; x <= 255; x++ {
			isNoSegment(t, filledBytes(byte(x), many), 1, 3)
		}
	}
}

func TestP40OtherNumbersOfRanges(t *testing.T) {
	for many := 0; many <= 4; many++ {
		for count := 0; count <= 255; count++ {
			s := impl.Segment{From: 7, To: 9, Heard: true, Ranges: make([]impl.Range, many)}
			for i := range s.Ranges {
				s.Ranges[i] = impl.Range{From: 257 * (i + 1), To: 257 * (i + 2)}
			}
			b := betweenBytes(1, 3, segmentTold(s, 2, byte(count), 0))
			if many == count && many <= 2 {
				segmentIsRead(t, b, 1, 3, s)
			} else {
				isNoSegment(t, b, 1, 3)
			}
		}
	}
}

func TestP40OtherLengths(t *testing.T) {
	for _, ranges := range [][]impl.Range{nil, {{From: 65530, To: 4}}, {{From: 7, To: 9}, {From: 12, To: 30}}} {
		for many := 0; many <= 300; many++ {
			s := impl.Segment{From: 7, To: 9, Heard: true, Ranges: ranges, Data: filledBytes(200, many)}
			for count := 0; count <= 255; count++ {
				b := betweenBytes(1, 3, segmentTold(s, 2, byte(len(ranges)), byte(count)))
				if many == count && many <= 12 {
					segmentIsRead(t, b, 1, 3, s)
				} else {
					isNoSegment(t, b, 1, 3)
				}
			}
		}
	}
}

func TestP40RangesAreNotTakenForBytes(t *testing.T) {
	// With one range less the first byte of the next one is the count of bytes; that fits just where it is as many as follow.
	s := impl.Segment{From: 7, To: 9, Heard: true, Ranges: []impl.Range{{From: 4 * 256, To: 0}}, Data: []byte{}}
	segmentIsRead(t, betweenBytes(1, 3, segmentTold(s, 2, 1, 0)), 1, 3, s)
	segmentIsRead(t, betweenBytes(1, 3, segmentTold(s, 2, 0, 0)), 1, 3, impl.Segment{From: 7, To: 9, Heard: true, Data: make([]byte, 4)})
	s.Ranges[0].From = 5 * 256
	isNoSegment(t, betweenBytes(1, 3, segmentTold(s, 2, 0, 0)), 1, 3)
}

func TestP40OtherMarks(t *testing.T) {
	for marks := 0; marks <= 255; marks++ {
		first, last, reset := marks%2 == 1, marks/4%2 == 1, marks/8%2 == 1
		for _, data := range [][]byte{nil, []byte("a"), mixedBytes(marks, 12)} {
			s := impl.Segment{From: 7, To: 9, Seq: 4, Data: data}
			b := betweenBytes(1, 3, segmentTold(s, byte(marks), 0, byte(len(data))))
			if marks > 15 || reset && (first || last || len(data) > 0) {
				isNoSegment(t, b, 1, 3)
				continue
			}
			s = marked(s, marks)
			segmentIsRead(t, b, 1, 3, s)
		}
	}
}

func TestP40OfOthersThereAreNoSegments(t *testing.T) {
	// The bytes are those that such segments would have, with a right sum.
	for _, s := range append(toldUnheard(), resetWithMore()...) {
		isNoSegment(t, segmentAsBytes(s, 1, 3), 1, 3)
	}
	for port := 0; port <= 255; port++ {
		isNoSegment(t, segmentAsBytes(impl.Segment{From: 0, To: port}, 1, 3), 1, 3)
		isNoSegment(t, segmentAsBytes(impl.Segment{From: port, To: 0, Heard: true, Data: []byte("hi")}, 1, 3), 1, 3)
	}
	for many := 3; many <= 63; many++ {
		s := impl.Segment{From: 7, To: 9, Heard: true, Ranges: make([]impl.Range, many)}
		isNoSegment(t, segmentAsBytes(s, 1, 3), 1, 3)
	}
	for many := 13; many <= 255; many++ {
		s := impl.Segment{From: 7, To: 9, Data: mixedBytes(many, many)}
		isNoSegment(t, segmentAsBytes(s, 1, 3), 1, 3)
	}
}

func TestP40JustOneSumIsRead(t *testing.T) {
	for _, s := range sampleSegments() {
		b := impl.SegmentBytes(s, 4660, 12)
		right := int(b[len(b)-2])*256 + int(b[len(b)-1])
		for sum := 0; sum <= 65535; sum += 257 {
			if sum != right {
				isNoSegment(t, joined(b[:len(b)-2], []byte{byte(sum / 256), byte(sum % 256)}), 4660, 12)
			}
		}
	}
	// Where the sum is 0, 65535 would fit as well, but is not sent.
	b := []byte{1, 2, 0, 0, 0, 0, 0, 0, 0, 0, 0, 0}
	segmentIsRead(t, b, 65277, 0, impl.Segment{From: 1, To: 2})
	isNoSegment(t, joined(b[:10], []byte{255, 255}), 65277, 0)
}

func TestP40BetweenAddressesOutOfRangeThereIsNone(t *testing.T) {
	for _, s := range sampleSegments() {
		for _, to := range []int{0, 12, 65535} {
			b := impl.SegmentBytes(s, 12, to)
			for _, v := range noAddrs() {
				isNoSegment(t, b, v, to)
				isNoSegment(t, b, 12, v)
				isNoSegment(t, b, v, v)
				isNoSegment(t, segmentAsBytes(s, v, to), v, to)
				isNoSegment(t, segmentAsBytes(s, to, v), to, v)
			}
		}
	}
}

func TestP40MixedBytesAreNoSegments(t *testing.T) {
	for seed := 0; seed < 20000; seed++ {
		b := mixedBytes(seed, seed%40)
		if s, ok := impl.SegmentFrom(b, seed, 12); ok {
			segmentBytesAre(t, s, seed, 12, b)
		} else {
			isNoSegment(t, b, seed, 12)
		}
	}
}

func TestP116KnownSegmentsThatHold(t *testing.T) {
	for _, s := range []impl.Segment{
		{From: 1, To: 1},
		{From: 255, To: 255, Seq: 65535},
		{From: 7, To: 9, First: true},
		{From: 7, To: 9, Last: true},
		{From: 7, To: 9, Reset: true},
		{From: 7, To: 9, Heard: true},
		{From: 7, To: 9, Heard: true, Reset: true},
		{From: 7, To: 9, Heard: true, Ack: 65535},
		{From: 7, To: 9, Heard: true, Room: 255},
		{From: 7, To: 9, Heard: true, Reset: true, Ack: 5, Room: 9, Ranges: []impl.Range{{From: 65535, To: 0}}},
		{From: 7, To: 9, First: true, Last: true, Data: []byte("hello, world")},
		{From: 7, To: 9, First: true, Heard: true, Last: true, Data: []byte("a")},
	} {
		segmentOkIs(t, s, true)
	}
}

func TestP116SamplesHold(t *testing.T) {
	for _, s := range sampleSegments() {
		segmentOkIs(t, s, true)
	}
	for seed := 0; seed < 20000; seed++ {
		segmentOkIs(t, mixedSegment(seed), true)
	}
}

func TestP116OthersDoNotHold(t *testing.T) {
	for _, s := range badSegments() {
		segmentOkIs(t, s, false)
	}
}

func TestP116EdgesOfEachNumber(t *testing.T) {
	for v := -70000; v <= 70000; v++ {
		for _, s := range []impl.Segment{
			{From: v, To: 9},
			{From: 7, To: v},
			{From: 7, To: 9, Seq: v},
			{From: 7, To: 9, Heard: true, Ack: v},
			{From: 7, To: 9, Heard: true, Room: v},
			{From: 7, To: 9, Ack: v},
			{From: 7, To: 9, Room: v},
			{From: 7, To: 9, Heard: true, Ranges: []impl.Range{{From: v, To: 9}}},
			{From: 7, To: 9, Heard: true, Ranges: []impl.Range{{From: 4, To: 9}, {From: 4, To: v}}},
		} {
			segmentOkIs(t, s, segmentOkAsDefined(s))
		}
	}
}

func TestP116AllMarksTogether(t *testing.T) {
	for marks := 0; marks < 16; marks++ {
		for ranges := 0; ranges <= 4; ranges++ {
			for many := 0; many <= 14; many++ {
				for _, heard := range [][2]int{{0, 0}, {1, 0}, {0, 1}, {65535, 255}, {-1, 0}, {0, 256}} {
					s := impl.Segment{From: 7, To: 9, Ack: heard[0], Room: heard[1], Ranges: make([]impl.Range, ranges), Data: mixedBytes(many, many)}
					s = marked(s, marks)
					segmentOkIs(t, s, segmentOkAsDefined(s))
				}
			}
		}
	}
}

func TestP116ItHoldsWithoutBytes(t *testing.T) {
	held := 0
	all := append(sampleSegments(), badSegments()...)
	for seed := 0; seed < 5000; seed++ {
		all = append(all, mixedSegment(seed))
	}
	for _, s := range all {
		if !impl.SegmentOk(s) {
			continue
		}
		held++
		for many := range s.Data {
			fewer := s
			fewer.Data = s.Data[:many]
			segmentOkIs(t, fewer, true)
		}
		s.Data = nil
		segmentOkIs(t, s, true)
	}
	if held < 5000 {
		t.Fatal("too few segments hold", held)
	}
}

func TestP116WhoHearsNothingTellsOfNothing(t *testing.T) {
	for _, s := range toldUnheard() {
		segmentOkIs(t, s, false)
		segmentOkIs(t, unheard(s), true)
	}
	for _, sample := range sampleSegments() {
		s := unheard(sample)
		for room := 1; room <= 255; room++ {
			s.Room = room
			segmentOkIs(t, s, false)
		}
		s.Room = 0
		segmentOkIs(t, s, true)
		s.Ack = 1
		segmentOkIs(t, s, false)
		s.Ack = 0
		s.Ranges = []impl.Range{{}}
		segmentOkIs(t, s, false)
	}
}

func TestP116ResetGoesAlone(t *testing.T) {
	for _, s := range resetWithMore() {
		segmentOkIs(t, s, false)
		s.Reset = false
		segmentOkIs(t, s, true)
	}
}

func TestP117KnownSegments(t *testing.T) {
	takes(t, impl.Segment{}, 0)
	takes(t, impl.Segment{From: 7, To: 9, Seq: 300}, 0)
	takes(t, impl.Segment{From: 7, To: 9, First: true}, 1)
	takes(t, impl.Segment{From: 7, To: 9, Last: true}, 1)
	takes(t, impl.Segment{From: 7, To: 9, First: true, Last: true}, 2)
	takes(t, impl.Segment{From: 7, To: 9, Heard: true}, 0)
	takes(t, impl.Segment{From: 7, To: 9, Reset: true}, 0)
	takes(t, impl.Segment{From: 7, To: 9, Heard: true, Reset: true}, 0)
	takes(t, impl.Segment{From: 7, To: 9, Data: []byte{0}}, 1)
	takes(t, impl.Segment{From: 7, To: 9, First: true, Data: []byte("a")}, 2)
	takes(t, impl.Segment{From: 7, To: 9, Last: true, Data: []byte("a")}, 2)
	takes(t, impl.Segment{From: 7, To: 9, Heard: true, Last: true, Data: []byte("ab")}, 3)
	takes(t, impl.Segment{From: 7, To: 9, First: true, Last: true, Data: []byte("hello, world")}, 14)
}

func TestP117EachByteAndEachMarkOfAnEndTakesANumber(t *testing.T) {
	all := append(sampleSegments(), badSegments()...)
	for _, s := range all {
		s.First = false
		s.Last = false
		many := len(s.Data)
		takes(t, s, many)
		s.First = true
		takes(t, s, many+1)
		s.Last = true
		takes(t, s, many+2)
		s.First = false
		takes(t, s, many+1)
	}
}

func TestP117ItIsNothingJustIfThereIsNeither(t *testing.T) {
	for marks := 0; marks < 16; marks++ {
		for many := 0; many <= 300; many++ {
			s := impl.Segment{From: 7, To: 9, Data: mixedBytes(many, many)}
			s = marked(s, marks)
			want := many + marks%2 + marks/4%2
			takes(t, s, want)
			if (want == 0) != (many == 0 && !s.First && !s.Last) {
				t.Fatal(s, want)
			}
		}
	}
}

func TestP117ItDoesNotHangOnWhatWasHeard(t *testing.T) {
	for _, s := range sampleSegments() {
		want := impl.SegmentLong(s)
		for _, v := range append(noSeqs(), seqEdges()...) {
			other := s
			other.Heard = !s.Heard
			other.Ack = v
			other.Room = v
			takes(t, other, want)
			other.From = v
			other.To = v
			other.Seq = v
			other.Reset = !s.Reset
			takes(t, other, want)
			other.Ranges = make([]impl.Range, 3)
			takes(t, other, want)
		}
		s.Ranges = nil
		takes(t, s, want)
	}
}

// rangesWithRoom and segmentCopied return ranges and a segment in new memory, with room behind each list that is filled. rangesSpoiled and segmentSpoiled turn all that there is in them, and fill the room behind each list.
func rangesWithRoom(ranges []impl.Range) []impl.Range {
	out := append([]impl.Range{}, ranges...)
	return append(out, impl.Range{From: 99, To: 99}, impl.Range{From: 99, To: 99}, impl.Range{From: 99, To: 99})[:len(ranges)]
}

func segmentCopied(s impl.Segment) impl.Segment {
	s.Ranges = rangesWithRoom(s.Ranges)
	s.Data = joined(s.Data, filledBytes(9, 80))[:len(s.Data)]
	return s
}

func rangesSpoiled(ranges []impl.Range) {
	for i := range ranges {
		ranges[i] = impl.Range{From: 77, To: 77}
	}
	for i := 0; i < 10; i++ {
		ranges = append(ranges, impl.Range{From: 77, To: 77})
	}
}

func segmentSpoiled(s impl.Segment) {
	rangesSpoiled(s.Ranges)
	bytesSpoiled(s.Data)
}

// rangesAreKept and segmentIsKept fail if ranges (rangesWithRoom) or a segment (segmentCopied) that were handed in were written, or the room behind them.
func rangesAreKept(t *testing.T, given []impl.Range, ranges []impl.Range) {
	t.Helper()
	if !sameRanges(given, ranges) {
		t.Fatal("the ranges were written", ranges, given)
	}
	for _, r := range given[:len(ranges)+3][len(ranges):] {
		if r.From != 99 || r.To != 99 {
			t.Fatal("behind the ranges", ranges)
		}
	}
}

func segmentIsKept(t *testing.T, given impl.Segment, s impl.Segment) {
	t.Helper()
	if !sameSegment(given, s) {
		t.Fatal("the segment was written", s, given)
	}
	rangesAreKept(t, given.Ranges, s.Ranges)
	if !sameBytes(given.Data[:len(s.Data)+80][len(s.Data):], filledBytes(9, 80)) {
		t.Fatal("behind the bytes of the segment", s)
	}
}

func TestChapter11WritesNoArguments(t *testing.T) {
	for _, s := range append(sampleSegments(), badSegments()...) {
		given := segmentCopied(s)
		impl.SegmentOk(given)
		impl.SegmentLong(given)
		impl.SegmentBytes(given, 12, 13)
		impl.SegmentBytes(given, 12, -1)
		segmentIsKept(t, given, s)
		b := joined(segmentAsBytes(s, 12, 13), filledBytes(9, 80))
		was := copied(b)
		impl.SegmentFrom(b[:len(b)-80], 12, 13)
		impl.SegmentFrom(b[:len(b)-80], 12, 14)
		if !sameBytes(b, was) {
			t.Fatal(s, b)
		}
	}
}

func TestChapter11BytesOfSegmentsAreNewMemory(t *testing.T) {
	for _, s := range sampleSegments() {
		given := segmentCopied(s)
		b := impl.SegmentBytes(given, 12, 13)
		segmentSpoiled(given)
		if !sameBytes(b, segmentAsBytes(s, 12, 13)) {
			t.Fatal("the bytes have memory of the segment", s, b)
		}
		given = segmentCopied(s)
		bytesSpoiled(impl.SegmentBytes(given, 12, 13))
		segmentIsKept(t, given, s)
	}
}

func TestChapter11SegmentsThatAreReadAreNewMemory(t *testing.T) {
	for _, s := range sampleSegments() {
		want := segmentAsBytes(s, 12, 13)
		room := joined(want, filledBytes(9, 80))
		got, _ := impl.SegmentFrom(room[:len(want)], 12, 13)
		bytesSpoiled(room[:len(want)])
		if !sameSegment(got, s) {
			t.Fatal("the segment has memory of the bytes", s, got)
		}
		room = joined(want, filledBytes(9, 80))
		got, _ = impl.SegmentFrom(room[:len(want)], 12, 13)
		segmentSpoiled(got)
		if !sameBytes(room, joined(want, filledBytes(9, 80))) {
			t.Fatal("the bytes have memory of the segment", s, room)
		}
	}
}
