package tests

import (
	"testing"

	"loop.example/netstack/impl"
)

// pieceAt returns a piece of the packet 7 from 1 to 2, with the bytes of a text.
func pieceAt(at int, text string, more bool) impl.Packet {
	return impl.Packet{From: 1, To: 2, Proto: 6, Hops: 9, Id: 7, At: at, More: more, Data: []byte(text)}
}

// withHops returns a piece that came another way.
func withHops(p impl.Packet, hops int) impl.Packet {
	p.Hops = hops
	return p
}

// ofOthers returns a piece as those of packets that differ from its own in one thing alone.
func ofOthers(p impl.Packet) []impl.Packet {
	out := []impl.Packet{p, p, p, p}
	out[0].From++
	out[1].To++
	out[2].Proto++
	out[3].Id++
	return out
}

// partOf returns a part that is kept till 20.
func partOf(pieces ...impl.Packet) impl.Part {
	return impl.Part{Pieces: pieces, Until: 20}
}

// partsOf returns a part of one piece for each of some packets, which differ in Id, kept till 20, 21 and so on.
func partsOf(ids ...int) []impl.Part {
	out := []impl.Part{}
	for i, id := range ids {
		p := pieceAt(3*i, "abc", true)
		p.Id = id
		out = append(out, impl.Part{Pieces: []impl.Packet{p}, Until: 20 + i})
	}
	return out
}

// noLimits and noPartTimes return limits and times out of range, noUntils times till which nothing is kept.
func noLimits() []int {
	return []int{least, -256, -48, -1, 0, 49, 50, 256, 257, 65536, greatest}
}

func noPartTimes() []int {
	return []int{least, -16, -15, -1, 999986, 999999, 1000000, 1000001, greatest}
}

func noUntils() []int {
	return []int{least, -20, -1, 1000001, 1000015, greatest}
}

// chosen returns the pieces whose bits are set in a number, in order.
func chosen(pieces []impl.Packet, bits int) []impl.Packet {
	out := []impl.Packet{}
	for i, p := range pieces {
		if bits>>i&1 == 1 {
			out = append(out, p)
		}
	}
	return out
}

// somePieces returns pieces that are a packet together: of one length, of several ones, with a last one without bytes, one alone, and as many bytes as there may be.
func somePieces() [][]impl.Packet {
	far := []impl.Packet{pieceAt(0, "a", true), pieceAt(200, "bcd", true), pieceAt(255, string(mixedBytes(1, 44)), false)}
	return [][]impl.Packet{
		{pieceAt(0, "abc", true), pieceAt(3, "def", true), pieceAt(6, "ghi", true), pieceAt(9, "j", false)},
		{pieceAt(0, "a", true), pieceAt(1, "bcdef", true), pieceAt(6, "gh", true), pieceAt(8, "", false)},
		{withHops(pieceAt(0, "ab", true), 0), withHops(pieceAt(2, "c", true), 255), withHops(pieceAt(3, "d", false), 1)},
		{pieceAt(0, string(mixedBytes(2, 24)), true), pieceAt(24, string(mixedBytes(3, 24)), true), pieceAt(48, "", false)},
		{pieceAt(0, string(mixedBytes(4, 47)), true), pieceAt(47, "x", false)},
		{{}},
		{{Whole: true, Data: []byte("whole")}},
		{{From: 65535, To: 65535, Proto: 255, Hops: 255, Id: 255, Data: mixedBytes(5, 48)}},
		far,
	}
}

// sampleParts returns parts: all choices of pieces that are a packet together, till the ends of times and between.
func sampleParts() []impl.Part {
	untils := []int{0, 1, 20, 999985, 999999, 1000000}
	out := []impl.Part{}
	for _, pieces := range somePieces() {
		for bits := 1; bits < 1<<len(pieces); bits++ {
			out = append(out, impl.Part{Pieces: chosen(pieces, bits), Until: untils[len(out)%len(untils)]})
		}
	}
	return out
}

// badParts returns parts that are none: without pieces, of pieces that do not go together, too many bytes, or one thing out of range.
func badParts() []impl.Part {
	abc := pieceAt(0, "abc", true)
	out := []impl.Part{
		{},
		{Until: 20},
		{Pieces: []impl.Packet{}, Until: 1000000},
		// Not in order.
		partOf(pieceAt(3, "def", true), abc),
		partOf(pieceAt(3, "def", false), abc),
		partOf(abc, pieceAt(9, "x", true), pieceAt(6, "y", true)),
		// Over each other, in one byte, in all, and one within the other.
		partOf(abc, pieceAt(2, "c", true)),
		partOf(abc, pieceAt(2, "cd", false)),
		partOf(abc, abc),
		partOf(abc, withHops(abc, 8)),
		partOf(abc, pieceAt(0, "abc", false)),
		partOf(abc, pieceAt(0, "ab", true)),
		partOf(abc, pieceAt(1, "b", true)),
		partOf(abc, pieceAt(2, "", false)),
		partOf(abc, pieceAt(0, "", false)),
		partOf(abc, pieceAt(6, "ghi", true), pieceAt(8, "i", false)),
		// Something behind a last one, or two of them.
		partOf(pieceAt(0, "abc", false), pieceAt(3, "def", true)),
		partOf(pieceAt(0, "abc", false), pieceAt(3, "def", false)),
		partOf(pieceAt(0, "abc", false), pieceAt(3, "", false)),
		partOf(pieceAt(3, "", false), pieceAt(3, "", false)),
		partOf(pieceAt(3, "", false), pieceAt(3, "d", true)),
		partOf(pieceAt(0, "", false), abc),
		partOf(abc, pieceAt(3, "d", false), pieceAt(4, "e", true)),
		// A byte too many, in two pieces, in three, and in many.
		partOf(pieceAt(0, string(mixedBytes(1, 48)), true), pieceAt(48, "x", false)),
		partOf(pieceAt(0, string(mixedBytes(1, 24)), true), pieceAt(24, string(mixedBytes(2, 24)), true), pieceAt(100, "x", true)),
		{Pieces: singles(49), Until: 20},
		{Pieces: singles(200), Until: 20},
	}
	for _, other := range ofOthers(pieceAt(3, "def", true)) {
		out = append(out, partOf(abc, other), partOf(abc, pieceAt(3, "def", true), withPlace(other, 6)), partOf(withPlace(other, 0), pieceAt(3, "def", false)))
	}
	for _, until := range noUntils() {
		out = append(out, impl.Part{Pieces: []impl.Packet{abc}, Until: until})
	}
	for _, p := range badPackets() {
		out = append(out, partOf(p), partOf(p, pieceAt(200, "z", true)), partOf(abc, p))
	}
	// Packets that are none, though nothing else is wrong.
	out = append(out, partOf(pieceAt(0, "", true)), partOf(abc, pieceAt(3, "", true)), partOf(abc, pieceAt(256, "x", true)), partOf(pieceAt(-1, "x", true), abc))
	whole := pieceAt(3, "def", false)
	whole.Whole = true
	return append(out, partOf(abc, whole), partOf(whole))
}

// withPlace returns a piece at another place.
func withPlace(p impl.Packet, at int) impl.Packet {
	p.At = at
	return p
}

// singles returns many pieces of one byte each, one behind the other.
func singles(many int) []impl.Packet {
	out := []impl.Packet{}
	for i := 0; i < many; i++ {
		out = append(out, pieceAt(i, string(mixedBytes(i, 1)), true))
	}
	return out
}

// piecesCopied, partCopied and partsCopied return the same ones in new memory, with room behind them that is filled, so that what is written there would be seen (piecesRoomIsKept).
func piecesCopied(pieces []impl.Packet) []impl.Packet {
	out := []impl.Packet{}
	for _, p := range pieces {
		out = append(out, packetCopied(p))
	}
	return append(out, pieceMark(), pieceMark())[:len(pieces)]
}

func partCopied(p impl.Part) impl.Part {
	return impl.Part{Pieces: piecesCopied(p.Pieces), Until: p.Until}
}

func partsCopied(list []impl.Part) []impl.Part {
	out := []impl.Part{}
	for _, p := range list {
		out = append(out, partCopied(p))
	}
	return append(out, partOf(pieceMark()), partOf(pieceMark()))[:len(list)]
}

// pieceMark is what stands in the room behind the lists that are handed in.
func pieceMark() impl.Packet {
	return pieceAt(99, "mark", true)
}

// samePieces, samePart and sameParts report whether both are the same; none are the same as nil.
func samePieces(a []impl.Packet, b []impl.Packet) bool {
	if len(a) != len(b) {
		return false
	}
	for i := range a {
		if !samePacket(a[i], b[i]) {
			return false
		}
	}
	return true
}

func samePart(a impl.Part, b impl.Part) bool {
	return a.Until == b.Until && samePieces(a.Pieces, b.Pieces)
}

func sameParts(a []impl.Part, b []impl.Part) bool {
	if len(a) != len(b) {
		return false
	}
	for i := range a {
		if !samePart(a[i], b[i]) {
			return false
		}
	}
	return true
}

// packetRoomIsKept, piecesRoomIsKept and partsRoomIsKept fail if something was written behind what was handed in.
func packetRoomIsKept(t *testing.T, p impl.Packet) {
	t.Helper()
	if !sameBytes(p.Data[:len(p.Data)+80][len(p.Data):], filledBytes(9, 80)) {
		t.Fatal("behind the bytes", p)
	}
}

func piecesRoomIsKept(t *testing.T, pieces []impl.Packet) {
	t.Helper()
	for _, p := range pieces {
		packetRoomIsKept(t, p)
	}
	if !samePieces(pieces[:len(pieces)+2][len(pieces):], []impl.Packet{pieceMark(), pieceMark()}) {
		t.Fatal("behind the pieces", pieces)
	}
}

func partsRoomIsKept(t *testing.T, list []impl.Part) {
	t.Helper()
	for _, p := range list {
		piecesRoomIsKept(t, p.Pieces)
	}
	if !sameParts(list[:len(list)+2][len(list):], []impl.Part{partOf(pieceMark()), partOf(pieceMark())}) {
		t.Fatal("behind the parts", list)
	}
}

// cutAsDefined returns the pieces of a packet by the definition, byte by byte.
func cutAsDefined(p impl.Packet, limit int) ([]impl.Packet, bool) {
	if len(p.Data) <= limit {
		return []impl.Packet{p}, true
	}
	out := []impl.Packet{}
	for i, x := range p.Data {
		if i%limit == 0 {
			piece := impl.Packet{From: p.From, To: p.To, Proto: p.Proto, Hops: p.Hops, Id: p.Id, At: p.At + i, More: true}
			out = append(out, piece)
		}
		last := len(out) - 1
		out[last].Data = append(out[last].Data, x)
	}
	last := len(out) - 1
	out[last].More = p.More
	if p.Whole || out[last].At > 255 {
		return nil, false
	}
	return out, true
}

// cutIs fails unless a packet is cut to these pieces.
func cutIs(t *testing.T, p impl.Packet, limit int, want []impl.Packet) {
	t.Helper()
	if got, ok := impl.PacketCut(p, limit); !ok || !samePieces(got, want) {
		t.Fatal(p, limit, "got", got, ok, "want", want)
	}
}

// cutsNothing fails if a packet is cut, or if what stands beside false is not nothing.
func cutsNothing(t *testing.T, p impl.Packet, limit int) {
	t.Helper()
	if got, ok := impl.PacketCut(p, limit); ok || len(got) != 0 {
		t.Fatal(p, limit, got, ok)
	}
}

func TestP15KnownPieces(t *testing.T) {
	p := pieceAt(0, "abcdefg", false)
	cutIs(t, p, 3, []impl.Packet{pieceAt(0, "abc", true), pieceAt(3, "def", true), pieceAt(6, "g", false)})
	cutIs(t, p, 6, []impl.Packet{pieceAt(0, "abcdef", true), pieceAt(6, "g", false)})
	cutIs(t, p, 4, []impl.Packet{pieceAt(0, "abcd", true), pieceAt(4, "efg", false)})
	// What is a piece itself is cut where it stands, and more follows its last piece if more followed it.
	p = pieceAt(10, "abcdef", true)
	cutIs(t, p, 4, []impl.Packet{pieceAt(10, "abcd", true), pieceAt(14, "ef", true)})
	p.More = false
	cutIs(t, p, 4, []impl.Packet{pieceAt(10, "abcd", true), pieceAt(14, "ef", false)})
}

func TestP15NoPieceIsWithoutBytesBehindFullOnes(t *testing.T) {
	p := pieceAt(0, "abcdef", false)
	cutIs(t, p, 3, []impl.Packet{pieceAt(0, "abc", true), pieceAt(3, "def", false)})
	cutIs(t, p, 2, []impl.Packet{pieceAt(0, "ab", true), pieceAt(2, "cd", true), pieceAt(4, "ef", false)})
}

func TestP15APacketThatGoesIsItself(t *testing.T) {
	for _, p := range samplePackets() {
		for limit := 1; limit <= 48; limit++ {
			if len(p.Data) <= limit {
				cutIs(t, p, limit, []impl.Packet{p})
			}
		}
	}
	// Also without bytes, and one that may not be cut.
	cutIs(t, impl.Packet{}, 1, []impl.Packet{{}})
	cutIs(t, impl.Packet{Whole: true}, 1, []impl.Packet{{Whole: true}})
	cutIs(t, impl.Packet{Whole: true, Data: []byte("abc")}, 3, []impl.Packet{{Whole: true, Data: []byte("abc")}})
	cutIs(t, impl.Packet{At: 255, Data: []byte("abc")}, 3, []impl.Packet{{At: 255, Data: []byte("abc")}})
}

func TestP15PiecesAreAsDefined(t *testing.T) {
	for _, p := range samplePackets() {
		for limit := 1; limit <= 48; limit++ {
			want, ok := cutAsDefined(p, limit)
			if !ok {
				cutsNothing(t, p, limit)
				continue
			}
			cutIs(t, p, limit, want)
			piecesAreThePacket(t, p, limit)
		}
	}
}

// piecesAreThePacket fails unless the pieces of a packet are ok, carry no more than the limit, and have its bytes together.
func piecesAreThePacket(t *testing.T, p impl.Packet, limit int) {
	t.Helper()
	pieces, _ := impl.PacketCut(p, limit)
	all := []byte{}
	for _, piece := range pieces {
		packetOkIs(t, piece, true)
		if len(piece.Data) > limit || piece.At != p.At+len(all) {
			t.Fatal(p, limit, piece)
		}
		all = append(all, piece.Data...)
	}
	if !sameBytes(all, p.Data) || pieces[len(pieces)-1].More != p.More {
		t.Fatal(p, limit, pieces)
	}
}

func TestP15LimitsNextToTheLength(t *testing.T) {
	for many := 2; many <= 48; many++ {
		text := string(mixedBytes(many, many))
		p := pieceAt(0, text, false)
		cutIs(t, p, many, []impl.Packet{p})
		cutIs(t, p, many-1, []impl.Packet{pieceAt(0, text[:many-1], true), pieceAt(many-1, text[many-1:], false)})
		pieces := []impl.Packet{}
		for i := 0; i < many; i++ {
			pieces = append(pieces, pieceAt(i, text[i:i+1], i < many-1))
		}
		cutIs(t, p, 1, pieces)
	}
}

func TestP15PlacesGoUpTo255(t *testing.T) {
	p := pieceAt(250, "abcdefgh", true)
	// The last piece is at 255, 256 and 254; where its bytes end does not matter.
	cutIs(t, p, 5, []impl.Packet{pieceAt(250, "abcde", true), pieceAt(255, "fgh", true)})
	cutsNothing(t, p, 6)
	cutIs(t, p, 4, []impl.Packet{pieceAt(250, "abcd", true), pieceAt(254, "efgh", true)})
	cutsNothing(t, p, 3)
	cutsNothing(t, p, 1)
	for at := 200; at <= 255; at++ {
		for limit := 1; limit < 48; limit++ {
			p := impl.Packet{At: at, Data: mixedBytes(at, 48)}
			last := 47 / limit * limit
			if at+last > 255 {
				cutsNothing(t, p, limit)
			} else {
				piecesAreThePacket(t, p, limit)
			}
		}
	}
}

func TestP15PiecesCanBeCutAgain(t *testing.T) {
	for _, p := range samplePackets() {
		for limit := 1; limit <= 48; limit++ {
			for less := 1; less <= limit; less++ {
				if limit%less == 0 {
					cutTwiceIsOnce(t, p, limit, less)
				}
			}
		}
	}
}

// cutTwiceIsOnce fails unless the pieces of a packet, cut by a lesser limit that goes into the first one, are its pieces by this one.
func cutTwiceIsOnce(t *testing.T, p impl.Packet, limit int, less int) {
	t.Helper()
	pieces, ok := impl.PacketCut(p, limit)
	got := []impl.Packet{}
	for _, piece := range pieces {
		again, fits := impl.PacketCut(piece, less)
		ok = ok && fits
		got = append(got, again...)
	}
	want, all := impl.PacketCut(p, less)
	if ok != all || ok && !samePieces(got, want) {
		t.Fatal(p, limit, less, "got", got, "want", want)
	}
}

func TestP15WhatMayNotBeCutIsNotCut(t *testing.T) {
	for many := 2; many <= 48; many++ {
		p := impl.Packet{From: 1, To: 2, Whole: true, Data: mixedBytes(many, many)}
		for limit := 1; limit < many; limit++ {
			cutsNothing(t, p, limit)
		}
		cutIs(t, p, many, []impl.Packet{p})
	}
}

func TestP15InvalidLimitsAndPacketsCutNothing(t *testing.T) {
	for _, p := range samplePackets() {
		for _, limit := range noLimits() {
			cutsNothing(t, p, limit)
		}
	}
	for _, p := range badPackets() {
		for _, limit := range []int{1, 3, 24, 47, 48} {
			cutsNothing(t, p, limit)
		}
		cutsNothing(t, p, 0)
	}
}

// wholeIs fails unless a part is whole, and this packet.
func wholeIs(t *testing.T, p impl.Part, want impl.Packet) {
	t.Helper()
	if got, ok := impl.PartWhole(p); !ok || !samePacket(got, want) {
		t.Fatal(p, "got", got, ok, "want", want)
	}
}

// isNotWhole fails if a part is whole, or if what stands beside false is not nothing.
func isNotWhole(t *testing.T, p impl.Part) {
	t.Helper()
	if got, ok := impl.PartWhole(p); ok || !samePacket(got, impl.Packet{}) {
		t.Fatal(p, got, ok)
	}
}

func TestP16KnownWholePackets(t *testing.T) {
	abc, def := pieceAt(0, "abc", true), pieceAt(3, "def", false)
	wholeIs(t, partOf(abc, def), pieceAt(0, "abcdef", false))
	wholeIs(t, partOf(pieceAt(0, "abc", false)), pieceAt(0, "abc", false))
	wholeIs(t, partOf(impl.Packet{}), impl.Packet{})
	wholeIs(t, partOf(pieceAt(0, "a", true), pieceAt(1, "bcd", true), pieceAt(4, "ef", false)), pieceAt(0, "abcdef", false))
}

func TestP16ALastPieceWithoutBytes(t *testing.T) {
	wholeIs(t, partOf(pieceAt(0, "abc", true), pieceAt(3, "", false)), pieceAt(0, "abc", false))
	wholeIs(t, partOf(pieceAt(0, string(mixedBytes(1, 48)), true), pieceAt(48, "", false)), pieceAt(0, string(mixedBytes(1, 48)), false))
	isNotWhole(t, partOf(pieceAt(0, "abc", true), pieceAt(4, "", false)))
	isNotWhole(t, partOf(pieceAt(3, "", false)))
	isNotWhole(t, partOf(pieceAt(1, "", false)))
}

func TestP16HopsAndWholeAreThoseOfTheFirstPiece(t *testing.T) {
	for _, hops := range byteEdges() {
		for _, other := range byteEdges() {
			p := partOf(withHops(pieceAt(0, "ab", true), hops), withHops(pieceAt(2, "c", true), other), withHops(pieceAt(3, "d", false), 77))
			wholeIs(t, p, withHops(pieceAt(0, "abcd", false), hops))
		}
	}
	for _, data := range [][]byte{nil, {7}, mixedBytes(1, 48)} {
		p := impl.Packet{From: 1, To: 2, Hops: 3, Whole: true, Data: data}
		wholeIs(t, partOf(p), p)
		p.Whole = false
		wholeIs(t, partOf(p), p)
	}
}

func TestP16AllPiecesMakeThePacket(t *testing.T) {
	for _, p := range samplePackets() {
		if p.At > 0 || p.More {
			continue
		}
		for limit := 1; limit <= 48; limit++ {
			if pieces, ok := impl.PacketCut(p, limit); ok {
				wholeIs(t, partOf(pieces...), p)
				withoutOneIsNotWhole(t, pieces)
			}
		}
	}
}

// withoutOneIsNotWhole fails if pieces without one of them are whole.
func withoutOneIsNotWhole(t *testing.T, pieces []impl.Packet) {
	t.Helper()
	for i := range pieces {
		less := append(append([]impl.Packet{}, pieces[:i]...), pieces[i+1:]...)
		isNotWhole(t, partOf(less...))
	}
}

func TestP16JustAllPiecesAreWhole(t *testing.T) {
	for _, pieces := range somePieces() {
		for bits := 1; bits < 1<<len(pieces); bits++ {
			p := partOf(chosen(pieces, bits)...)
			got, ok := impl.PartWhole(p)
			// Of all that are there together the far ones alone have gaps.
			if ok != (bits == 1<<len(pieces)-1 && pieces[len(pieces)-1].At < 255) {
				t.Fatal(p, got, ok)
			}
			if ok {
				packetOkIs(t, got, true)
				withoutOneIsNotWhole(t, pieces)
			} else {
				isNotWhole(t, p)
			}
		}
	}
}

func TestP16WhatIsNotWhole(t *testing.T) {
	// It does not begin at 0, though it would without its place.
	isNotWhole(t, partOf(pieceAt(1, "abc", false)))
	isNotWhole(t, partOf(pieceAt(3, "abc", true), pieceAt(6, "def", false)))
	isNotWhole(t, partOf(pieceAt(255, "abc", false)))
	// More follows.
	isNotWhole(t, partOf(pieceAt(0, "abc", true)))
	isNotWhole(t, partOf(pieceAt(0, "abc", true), pieceAt(3, "def", true)))
	isNotWhole(t, partOf(pieceAt(0, string(mixedBytes(1, 48)), true)))
	// There are gaps of a byte, or more.
	isNotWhole(t, partOf(pieceAt(0, "abc", true), pieceAt(4, "def", false)))
	isNotWhole(t, partOf(pieceAt(0, "abc", true), pieceAt(3, "d", true), pieceAt(5, "f", false)))
	isNotWhole(t, partOf(pieceAt(0, "abc", true), pieceAt(200, "d", true), pieceAt(201, "f", false)))
}

func TestP16InvalidPartsAreNotWhole(t *testing.T) {
	for _, p := range badParts() {
		isNotWhole(t, p)
	}
	for _, until := range noUntils() {
		isNotWhole(t, impl.Part{Pieces: []impl.Packet{pieceAt(0, "abc", false)}, Until: until})
	}
	for _, other := range ofOthers(pieceAt(3, "def", false)) {
		isNotWhole(t, partOf(pieceAt(0, "abc", true), other))
	}
}

// ofOnePacket reports whether two pieces are of one packet.
func ofOnePacket(a impl.Packet, b impl.Packet) bool {
	return a.From == b.From && a.To == b.To && a.Proto == b.Proto && a.Id == b.Id
}

// putAsDefined returns an ok part with one more ok piece by the definition: it is tried at each index.
func putAsDefined(p impl.Part, q impl.Packet) (impl.Part, bool) {
	for _, piece := range p.Pieces {
		if ofOnePacket(piece, q) && piece.At == q.At && piece.More == q.More && sameBytes(piece.Data, q.Data) {
			return p, true
		}
	}
	for i := 0; i <= len(p.Pieces); i++ {
		put := append(append([]impl.Packet{}, p.Pieces[:i]...), q)
		out := impl.Part{Pieces: append(put, p.Pieces[i:]...), Until: p.Until}
		if partOkAsDefined(out) {
			return out, true
		}
	}
	return impl.Part{}, false
}

// partOkAsDefined reports whether a part is one by the definition, with each piece beside each other one.
func partOkAsDefined(p impl.Part) bool {
	many := 0
	for i, piece := range p.Pieces {
		if !impl.PacketOk(piece) || !piece.More && i < len(p.Pieces)-1 {
			return false
		}
		many += len(piece.Data)
		for _, behind := range p.Pieces[i+1:] {
			if !ofOnePacket(piece, behind) || behind.At < piece.At+len(piece.Data) {
				return false
			}
		}
	}
	return len(p.Pieces) > 0 && many <= 48 && p.Until >= 0 && p.Until <= 1000000
}

// putIs fails unless a part with one more piece is want, and the same when it is put again.
func putIs(t *testing.T, p impl.Part, q impl.Packet, want impl.Part) {
	t.Helper()
	got, ok := impl.PartPut(p, q)
	if !ok || !samePart(got, want) {
		t.Fatal(p, q, "got", got, ok, "want", want)
	}
	partOkIs(t, got, true)
	if again, ok := impl.PartPut(got, q); !ok || !samePart(again, want) {
		t.Fatal("put twice", p, q, again, ok)
	}
}

// putsNothing fails if a piece is put to a part, or if what stands beside false is not nothing.
func putsNothing(t *testing.T, p impl.Part, q impl.Packet) {
	t.Helper()
	if got, ok := impl.PartPut(p, q); ok || !samePart(got, impl.Part{}) {
		t.Fatal(p, q, got, ok)
	}
}

func TestP17APieceStandsInItsPlace(t *testing.T) {
	a, d, g := pieceAt(0, "abc", true), pieceAt(3, "def", true), pieceAt(6, "g", false)
	putIs(t, partOf(d), a, partOf(a, d))
	putIs(t, partOf(a), d, partOf(a, d))
	putIs(t, partOf(a, g), d, partOf(a, d, g))
	putIs(t, partOf(d, g), a, partOf(a, d, g))
	putIs(t, partOf(a, d), g, partOf(a, d, g))
	putIs(t, partOf(g), a, partOf(a, g))
	putIs(t, partOf(a), pieceAt(255, "z", true), partOf(a, pieceAt(255, "z", true)))
	// A gap of a byte is left.
	putIs(t, partOf(a, pieceAt(6, "g", true)), pieceAt(4, "e", true), partOf(a, pieceAt(4, "e", true), pieceAt(6, "g", true)))
}

func TestP17APieceThatCameTurnsNothing(t *testing.T) {
	for _, p := range sampleParts() {
		for _, q := range p.Pieces {
			putIs(t, p, q, p)
			for _, hops := range byteEdges() {
				putIs(t, p, withHops(q, hops), p)
			}
		}
	}
}

func TestP17WhetherItMayBeCutDoesNotCount(t *testing.T) {
	p := pieceAt(0, "abc", false)
	whole := p
	whole.Whole = true
	putIs(t, partOf(p), whole, partOf(p))
	putIs(t, partOf(whole), p, partOf(whole))
}

func TestP17AllPiecesThatWereThereAreThere(t *testing.T) {
	for _, pieces := range somePieces() {
		for bits := 1; bits < 1<<len(pieces); bits++ {
			for i, q := range pieces {
				putIs(t, partOf(chosen(pieces, bits)...), q, partOf(chosen(pieces, bits|1<<i)...))
			}
		}
	}
}

func TestP17PiecesThatOverlapDoNotFit(t *testing.T) {
	p := partOf(pieceAt(3, "def", true), pieceAt(8, "ij", true))
	for _, more := range []bool{false, true} {
		// In one byte, at its beginning and at its end.
		putsNothing(t, p, pieceAt(1, "abd", more))
		putsNothing(t, p, pieceAt(5, "fg", more))
		putsNothing(t, p, pieceAt(6, "ghi", more))
		putsNothing(t, p, pieceAt(9, "jk", more))
		// Within, in all and beyond.
		putsNothing(t, p, pieceAt(4, "e", more))
		putsNothing(t, p, pieceAt(3, "d", more))
		putsNothing(t, p, pieceAt(5, "f", more))
		putsNothing(t, p, pieceAt(3, "dex", more))
		putsNothing(t, p, pieceAt(3, "defg", more))
		putsNothing(t, p, pieceAt(0, "abcdefghijk", more))
		putsNothing(t, p, pieceAt(8, "ix", more))
	}
	putsNothing(t, p, pieceAt(3, "def", false))
	putsNothing(t, p, pieceAt(8, "ij", false))
	putsNothing(t, p, pieceAt(9, "", false))
	putsNothing(t, p, pieceAt(8, "", false))
	// Between them it fits.
	putIs(t, p, pieceAt(6, "gh", true), partOf(p.Pieces[0], pieceAt(6, "gh", true), p.Pieces[1]))
}

func TestP17ALastPieceIsTheLastOne(t *testing.T) {
	last := partOf(pieceAt(6, "ghi", false))
	empty := partOf(pieceAt(6, "", false))
	for _, p := range []impl.Part{last, empty} {
		end := 6 + len(p.Pieces[0].Data)
		for at := end; at <= 255; at++ {
			putsNothing(t, p, pieceAt(at, "x", true))
			putsNothing(t, p, pieceAt(at, "x", false))
			if at > 6 {
				putsNothing(t, p, pieceAt(at, "", false))
			}
		}
		for at := 0; at < 6; at++ {
			putsNothing(t, p, pieceAt(at, "x", false))
			putsNothing(t, p, pieceAt(at, "", false))
			putIs(t, p, pieceAt(at, "x", true), partOf(pieceAt(at, "x", true), p.Pieces[0]))
		}
	}
	// As the last piece stands there already.
	putIs(t, empty, pieceAt(6, "", false), empty)
	putsNothing(t, last, pieceAt(6, "", false))
	putsNothing(t, last, pieceAt(9, "", false))
	putsNothing(t, empty, pieceAt(6, "ghi", false))
}

func TestP17ALastPieceAheadOfAnotherOneDoesNotFit(t *testing.T) {
	p := partOf(pieceAt(6, "ghi", true))
	for at := 0; at < 9; at++ {
		putsNothing(t, p, pieceAt(at, "", false))
		putsNothing(t, p, pieceAt(at, "x", false))
	}
	for at := 9; at <= 255; at++ {
		putIs(t, p, pieceAt(at, "", false), partOf(p.Pieces[0], pieceAt(at, "", false)))
		putIs(t, p, pieceAt(at, "x", false), partOf(p.Pieces[0], pieceAt(at, "x", false)))
	}
}

func TestP17NotTooManyBytes(t *testing.T) {
	for many := 0; many <= 48; many++ {
		p := partOf(pieceAt(100, string(mixedBytes(many, 48)), true))
		if many > 0 {
			putsNothing(t, p, pieceAt(0, string(mixedBytes(1, many)), true))
		}
		p.Pieces[0].Data = p.Pieces[0].Data[:48-many]
		if many < 48 {
			q := pieceAt(200, string(mixedBytes(1, many)), false)
			putIs(t, p, q, partOf(p.Pieces[0], q))
			putsNothing(t, p, pieceAt(200, string(mixedBytes(1, many+1)), false))
		}
	}
	putIs(t, partOf(pieceAt(0, string(mixedBytes(1, 48)), true)), pieceAt(48, "", false), partOf(pieceAt(0, string(mixedBytes(1, 48)), true), pieceAt(48, "", false)))
	ones := singles(48)
	putIs(t, partOf(ones[:47]...), ones[47], partOf(ones...))
	putsNothing(t, partOf(ones...), pieceAt(100, "x", true))
}

func TestP17PiecesOfOtherPacketsDoNotFit(t *testing.T) {
	p := partOf(pieceAt(0, "abc", true), pieceAt(6, "ghi", true))
	for _, q := range []impl.Packet{pieceAt(3, "def", true), pieceAt(9, "j", false), pieceAt(0, "abc", true), pieceAt(6, "ghi", true)} {
		for _, other := range ofOthers(q) {
			putsNothing(t, p, other)
		}
	}
}

// somePiece returns a piece of one of five packets of eight bytes in no order that can be seen: mostly one of the four of two bytes, else one anywhere, also without bytes, far away, or with a byte that the packet has not.
func somePiece(seed int) impl.Packet {
	x := mixedBytes(seed, 7)
	at := int(x[0]) % 4 * 2
	p := impl.Packet{From: 1, To: 2, Hops: int(x[1]) % 3, Id: int(x[2]) % 5}
	if x[3] >= 40 {
		p.At = at
		p.More = at < 6
		p.Data = []byte("abcdefgh"[at : at+2])
		return p
	}
	p.At = int(x[0]) % 9
	p.Data = []byte("abcdefghijkl"[p.At:][:int(x[4])%4])
	if x[5] < 20 {
		p.Data = append(p.Data, 'X')
	}
	if x[5] > 240 {
		p.At += 242
	}
	p.More = len(p.Data) > 0 && x[6] < 180
	return p
}

func TestP17PiecesArePutAsDefined(t *testing.T) {
	fits, misfits := 0, 0
	for seed := 0; seed < 20000; seed++ {
		q := somePiece(seed)
		q.Id = 0
		p := partOf(q)
		for i := 0; i < 12; i++ {
			q = somePiece(seed*12 + i)
			q.Id = 0
			want, ok := putAsDefined(p, q)
			if !ok {
				misfits++
				putsNothing(t, p, q)
				continue
			}
			fits++
			putIs(t, p, q, want)
			p = want
		}
	}
	if fits < 1000 || misfits < 1000 {
		t.Fatal("too few pieces", fits, misfits)
	}
}

func TestP17InvalidPiecesArePutNowhere(t *testing.T) {
	for _, p := range badParts() {
		putsNothing(t, p, pieceAt(0, "abc", true))
		putsNothing(t, p, pieceAt(100, "z", true))
		for _, q := range p.Pieces {
			putsNothing(t, p, q)
		}
	}
	for _, q := range badPackets() {
		for _, p := range sampleParts() {
			putsNothing(t, p, q)
		}
	}
	// They are of the packet, and one of them is there already, but for its Hops.
	p := partOf(pieceAt(0, "abc", true))
	putsNothing(t, p, pieceAt(256, "x", true))
	putsNothing(t, p, pieceAt(-1, "x", true))
	putsNothing(t, p, pieceAt(3, "", true))
	putsNothing(t, p, withHops(pieceAt(0, "abc", true), 256))
	putsNothing(t, p, withHops(pieceAt(3, "def", true), -1))
}

// partsHearIs fails unless parts become want by a packet, and nothing is whole.
func partsHearIs(t *testing.T, list []impl.Part, p impl.Packet, now int, want []impl.Part) {
	t.Helper()
	got, whole, ok := impl.PartsHear(list, p, now)
	if ok || !samePacket(whole, impl.Packet{}) || !sameParts(got, want) {
		t.Fatal(list, p, now, "got", got, whole, ok, "want", want)
	}
}

// partsWholeIs fails unless parts become want by a packet, by which this packet is whole.
func partsWholeIs(t *testing.T, list []impl.Part, p impl.Packet, now int, want []impl.Part, all impl.Packet) {
	t.Helper()
	got, whole, ok := impl.PartsHear(list, p, now)
	if !ok || !samePacket(whole, all) || !sameParts(got, want) {
		t.Fatal(list, p, now, "got", got, whole, ok, "want", want, all)
	}
}

// partsHeardAsDefined returns what parts become by a packet, and what is whole by it, by the definition.
func partsHeardAsDefined(list []impl.Part, p impl.Packet, now int) ([]impl.Part, impl.Packet, bool) {
	out := []impl.Part{}
	done := []impl.Packet{}
	alone := p.At == 0 && !p.More
	if alone {
		done = append(done, p)
	}
	known := alone
	for _, part := range list {
		if part.Until <= now {
			continue
		}
		if alone || !ofOnePacket(part.Pieces[0], p) {
			out = append(out, part)
			continue
		}
		known = true
		put, fits := putAsDefined(part, p)
		done = wholeAsDefined(put)
		if fits && len(done) == 0 {
			out = append(out, put)
		}
	}
	if !known {
		out = append(out, impl.Part{Pieces: []impl.Packet{p}, Until: now + 15})
	}
	if len(out) > 3 {
		out = out[1:]
	}
	if len(done) == 0 {
		return out, impl.Packet{}, false
	}
	return out, done[0], true
}

// wholeAsDefined returns the packet that a part is if it is whole, none otherwise, by the definition, place by place.
func wholeAsDefined(p impl.Part) []impl.Packet {
	data := []byte{}
	for place := 0; place < 304; place++ {
		for _, piece := range p.Pieces {
			if place >= piece.At && place < piece.At+len(piece.Data) {
				data = append(data, piece.Data[place-piece.At])
			}
		}
	}
	if len(p.Pieces) == 0 || p.Pieces[0].At > 0 {
		return nil
	}
	last := p.Pieces[len(p.Pieces)-1]
	if last.More || last.At+len(last.Data) != len(data) {
		return nil
	}
	out := p.Pieces[0]
	out.More = false
	out.Data = data
	return []impl.Packet{out}
}

func TestP18AWholePacketTurnsNothingElse(t *testing.T) {
	for _, p := range samplePackets() {
		if p.At > 0 || p.More {
			continue
		}
		partsWholeIs(t, nil, p, 0, nil, p)
		list := partsOf(7, 8, 9)
		partsWholeIs(t, list, p, 19, list, p)
		partsWholeIs(t, list, p, 20, list[1:], p)
		partsWholeIs(t, list, p, 999985, nil, p)
		// Also if it is the packet of a part, which it does not fit.
		own := []impl.Part{partOf(p)}
		own[0].Pieces[0].At = 1
		own[0].Pieces[0].Whole = false
		partsWholeIs(t, own, p, 5, own, p)
	}
}

func TestP18APieceOfNoPartIsANewOne(t *testing.T) {
	for _, now := range []int{0, 1, 500000, 999984, 999985} {
		for _, q := range []impl.Packet{pieceAt(0, "abc", true), pieceAt(3, "def", false), pieceAt(1, "", false), pieceAt(255, "x", true)} {
			partsHearIs(t, nil, q, now, []impl.Part{{Pieces: []impl.Packet{q}, Until: now + 15}})
		}
	}
	list := partsOf(8, 9)
	q := pieceAt(0, "abc", true)
	partsHearIs(t, list, q, 10, []impl.Part{list[0], list[1], {Pieces: []impl.Packet{q}, Until: 25}})
}

func TestP18TheFirstOneGoesIfThereAreTooMany(t *testing.T) {
	all := partsOf(10, 11, 12)
	// It is the first one, whatever its time is.
	all[0].Until = 1000000
	q := pieceAt(0, "abc", true)
	fresh := impl.Part{Pieces: []impl.Packet{q}, Until: 20}
	partsHearIs(t, all, q, 5, []impl.Part{all[1], all[2], fresh})
	partsHearIs(t, all[:2], q, 5, []impl.Part{all[0], all[1], fresh})
	partsHearIs(t, all[:1], q, 5, []impl.Part{all[0], fresh})
	// What is over goes ahead of that, so there is room.
	fresh.Until = 36
	partsHearIs(t, all, q, 21, []impl.Part{all[0], all[2], fresh})
	// None goes for a part that is there.
	for i := range all {
		want := partsCopied(all)
		next := pieceAt(100, "x", true)
		next.Id = 10 + i
		want[i].Pieces = append(want[i].Pieces, next)
		partsHearIs(t, all, next, 5, want)
	}
}

func TestP18NothingIsKeptBeyondItsTime(t *testing.T) {
	for _, until := range []int{1, 2, 20, 999985} {
		held := impl.Part{Pieces: []impl.Packet{pieceAt(0, "abc", true)}, Until: until}
		last := pieceAt(3, "def", false)
		partsWholeIs(t, []impl.Part{held}, last, until-1, nil, pieceAt(0, "abcdef", false))
		partsHearIs(t, []impl.Part{held}, last, until, []impl.Part{{Pieces: []impl.Packet{last}, Until: until + 15}})
		other := pieceAt(3, "def", false)
		other.Id = 8
		fresh := []impl.Part{held, {Pieces: []impl.Packet{other}, Until: until + 14}}
		partsHearIs(t, []impl.Part{held}, other, until-1, fresh)
		fresh[1].Until = until + 15
		partsHearIs(t, []impl.Part{held}, other, until, fresh[1:])
	}
	// Until 0 is over at 0, and 1000000 never.
	held := []impl.Part{{Pieces: []impl.Packet{pieceAt(0, "abc", true)}}}
	partsWholeIs(t, held, impl.Packet{}, 0, nil, impl.Packet{})
	held[0].Until = 1000000
	partsWholeIs(t, held, impl.Packet{}, 999985, held, impl.Packet{})
}

func TestP18APieceDoesNotMakeTheTimeLonger(t *testing.T) {
	held := []impl.Part{partOf(pieceAt(0, "abc", true))}
	next := pieceAt(3, "def", true)
	partsHearIs(t, held, next, 19, []impl.Part{partOf(pieceAt(0, "abc", true), next)})
	partsHearIs(t, held, pieceAt(0, "abc", true), 19, held)
}

func TestP18WhatDoesNotFitMakesItsPartGo(t *testing.T) {
	list := partsOf(8, 7, 9)
	rest := []impl.Part{list[0], list[2]}
	// At 3 there is abc.
	for _, bad := range []impl.Packet{pieceAt(3, "abX", true), pieceAt(3, "abc", false), pieceAt(2, "xa", true), pieceAt(5, "c", true), pieceAt(4, "", false), pieceAt(0, "abcabc", true), pieceAt(2, "", false), pieceAt(50, string(mixedBytes(1, 46)), true)} {
		partsHearIs(t, list, bad, 5, rest)
		partsHearIs(t, list[1:], bad, 5, list[2:])
		partsHearIs(t, list[1:2], bad, 5, nil)
		// Whoever comes behind it begins anew.
		partsHearIs(t, rest, bad, 5, []impl.Part{list[0], list[2], {Pieces: []impl.Packet{bad}, Until: 20}})
	}
}

func TestP18WhatIsWholeIsKeptNoMore(t *testing.T) {
	list := partsOf(8, 7, 9)
	list[1].Pieces = []impl.Packet{withHops(pieceAt(0, "abc", true), 4), pieceAt(6, "g", false)}
	rest := []impl.Part{list[0], list[2]}
	whole := withHops(pieceAt(0, "abcdefg", false), 4)
	partsWholeIs(t, list, pieceAt(3, "def", true), 5, rest, whole)
	partsWholeIs(t, list[1:], pieceAt(3, "def", true), 5, list[2:], whole)
	partsWholeIs(t, list[:2], pieceAt(3, "def", true), 5, list[:1], whole)
	partsWholeIs(t, list[1:2], pieceAt(3, "def", true), 5, nil, whole)
	// A part that is handed in whole is whole by a piece that came already.
	done := []impl.Part{partOf(pieceAt(0, "abc", true), pieceAt(3, "d", false))}
	partsWholeIs(t, done, pieceAt(3, "d", false), 5, nil, pieceAt(0, "abcd", false))
	partsWholeIs(t, done, withHops(pieceAt(0, "abc", true), 77), 5, nil, pieceAt(0, "abcd", false))
}

func TestP18PiecesOfOtherPacketsAreOtherParts(t *testing.T) {
	held := partOf(pieceAt(0, "abc", true))
	for _, other := range ofOthers(pieceAt(3, "def", false)) {
		partsHearIs(t, []impl.Part{held}, other, 5, []impl.Part{held, {Pieces: []impl.Packet{other}, Until: 20}})
	}
}

func TestP18WhateverComesIsAsDefined(t *testing.T) {
	whole := 0
	for run := 0; run < 40; run++ {
		parts := []impl.Part{}
		now := 0
		for i := 0; i < 500; i++ {
			seed := run*500 + i
			p := somePiece(seed)
			now += int(mixedBytes(seed, 1)[0]) % (1 + run%12)
			want, all, ok := partsHeardAsDefined(parts, p, now)
			if ok {
				packetIsWhole(t, all)
				if len(all.Data) > len(p.Data) {
					whole++
				}
				partsWholeIs(t, parts, p, now, want, all)
			} else {
				partsHearIs(t, parts, p, now, want)
			}
			parts, _, _ = impl.PartsHear(parts, p, now)
			partsAreKept(t, parts, now)
		}
	}
	if whole < 500 {
		t.Fatal("too few packets were whole by pieces", whole)
	}
}

// packetIsWhole fails unless a packet is ok, at 0, with nothing that follows.
func packetIsWhole(t *testing.T, p impl.Packet) {
	t.Helper()
	if !impl.PacketOk(p) || p.At != 0 || p.More {
		t.Fatal(p)
	}
}

// partsAreKept fails unless parts are ok, and none is kept beyond its time.
func partsAreKept(t *testing.T, list []impl.Part, now int) {
	t.Helper()
	partsOkIs(t, list, true)
	for _, p := range list {
		if p.Until <= now || p.Until > now+15 {
			t.Fatal(p, now)
		}
	}
}

func TestP18InvalidPartsHearNothing(t *testing.T) {
	for _, list := range badLists() {
		partsHearIs(t, list, pieceAt(0, "abc", true), 0, nil)
		partsHearIs(t, list, pieceAt(0, "abc", false), 0, nil)
		partsHearIs(t, list, pieceAt(0, "abc", false), 999985, nil)
	}
	for _, p := range badPackets() {
		partsHearIs(t, nil, p, 0, nil)
		partsHearIs(t, partsOf(7, 8), p, 5, nil)
	}
	for _, now := range noPartTimes() {
		partsHearIs(t, nil, pieceAt(0, "abc", true), now, nil)
		partsHearIs(t, partsOf(7, 8), pieceAt(0, "abc", false), now, nil)
		partsHearIs(t, partsOf(7, 8), pieceAt(3, "abc", true), now, nil)
	}
}

// orders returns all orders of the numbers below n.
func orders(n int) [][]int {
	if n == 0 {
		return [][]int{{}}
	}
	out := [][]int{}
	for _, order := range orders(n - 1) {
		for at := 0; at <= len(order); at++ {
			next := append(append([]int{}, order[:at]...), n-1)
			out = append(out, append(next, order[at:]...))
		}
	}
	return out
}

// mixedOrder returns the numbers below n in an order that cannot be seen.
func mixedOrder(seed int, n int) []int {
	out := []int{}
	for i, x := range mixedBytes(seed, n) {
		at := int(x) % (i + 1)
		next := append(append([]int{}, out[:at]...), i)
		out = append(next, out[at:]...)
	}
	return out
}

// arrives fails unless a packet is whole by the last one of its pieces in this order, and not ahead of it. Behind each piece ahead of the last one some of those that came come again, with other Hops.
func arrives(t *testing.T, pieces []impl.Packet, order []int, now int, twice int, want impl.Packet) {
	t.Helper()
	parts := []impl.Part{}
	for i, at := range order[:len(order)-1] {
		parts = heardOnTheWay(t, parts, pieces[at], now)
		for k := 0; k < twice; k++ {
			again := pieces[order[(i+k*7)%(i+1)]]
			parts = heardOnTheWay(t, parts, withHops(again, 200+k), now)
		}
	}
	partsWholeIs(t, parts, pieces[order[len(order)-1]], now, nil, want)
}

// heardOnTheWay returns parts after a piece by which nothing is whole.
func heardOnTheWay(t *testing.T, parts []impl.Part, p impl.Packet, now int) []impl.Part {
	t.Helper()
	out, whole, ok := impl.PartsHear(parts, p, now)
	if ok || !samePacket(whole, impl.Packet{}) || len(out) != 1 {
		t.Fatal(parts, p, out, whole, ok)
	}
	return out
}

func TestP19InAnyOrderThePacketArrives(t *testing.T) {
	for many := 1; many <= 6; many++ {
		p := pieceAt(0, string(mixedBytes(many, 6*many-2)), false)
		pieces, _ := impl.PacketCut(p, 6)
		for _, order := range orders(len(pieces)) {
			for twice := 0; twice <= 2; twice++ {
				arrives(t, pieces, order, 0, twice, p)
				arrives(t, pieces, order, 999985, twice, p)
			}
		}
	}
}

func TestP19EachLimitAndLength(t *testing.T) {
	for _, p := range samplePackets() {
		if p.At > 0 || p.More {
			continue
		}
		for limit := 1; limit <= 48; limit++ {
			pieces, ok := impl.PacketCut(p, limit)
			if !ok {
				continue
			}
			for seed := 0; seed < 3; seed++ {
				arrives(t, pieces, mixedOrder(seed+limit, len(pieces)), 7*limit, seed, p)
			}
		}
	}
}

func TestP19PiecesThatAreCutAgainArrive(t *testing.T) {
	p := pieceAt(0, string(mixedBytes(5, 48)), false)
	for limit := 2; limit < 48; limit++ {
		for less := 1; less < limit; less++ {
			once, _ := impl.PacketCut(p, limit)
			pieces := []impl.Packet{}
			for i, piece := range once {
				again := []impl.Packet{piece}
				if i%2 == 0 {
					again, _ = impl.PacketCut(piece, less)
				}
				pieces = append(pieces, again...)
			}
			arrives(t, pieces, mixedOrder(limit*less, len(pieces)), 3, 1, p)
		}
	}
}

func TestP19WithALastPieceWithoutBytes(t *testing.T) {
	for _, pieces := range somePieces()[:5] {
		all := pieceAt(0, "", false)
		all.Hops = pieces[0].Hops
		for _, p := range pieces {
			all.Data = append(all.Data, p.Data...)
		}
		for _, order := range orders(len(pieces)) {
			arrives(t, pieces, order, 50, 0, all)
			arrives(t, pieces, order, 50, 2, all)
		}
	}
}

func TestP19HopsAreThoseOfTheFirstPiece(t *testing.T) {
	pieces, _ := impl.PacketCut(pieceAt(0, "abcdefgh", false), 2)
	for i := range pieces {
		pieces[i].Hops = 40 + i
	}
	for _, order := range orders(4) {
		arrives(t, pieces, order, 0, 0, withHops(pieceAt(0, "abcdefgh", false), 40))
	}
}

// partOkIs fails unless PartOk tells what is wanted of a part.
func partOkIs(t *testing.T, p impl.Part, want bool) {
	t.Helper()
	if got := impl.PartOk(p); got != want {
		t.Fatal(p, got)
	}
}

func TestP103PartsAreOk(t *testing.T) {
	for _, p := range sampleParts() {
		partOkIs(t, p, true)
	}
	partOkIs(t, partOf(singles(48)...), true)
	partOkIs(t, partOf(append(singles(48), pieceAt(48, "", false))...), true)
	// Any packet alone is a part.
	for _, p := range samplePackets() {
		partOkIs(t, partOf(p), true)
	}
}

func TestP103FewerPiecesAreAPart(t *testing.T) {
	for _, p := range append(sampleParts(), partOf(singles(48)...)) {
		for less := 1; less < len(p.Pieces); less++ {
			partOkIs(t, impl.Part{Pieces: p.Pieces[less:], Until: p.Until}, true)
			partOkIs(t, impl.Part{Pieces: p.Pieces[:len(p.Pieces)-less], Until: p.Until}, true)
		}
		partOkIs(t, impl.Part{Pieces: p.Pieces[:0], Until: p.Until}, false)
	}
}

func TestP103TimesInRange(t *testing.T) {
	for _, until := range []int{0, 1, 15, 999985, 999986, 999999, 1000000} {
		partOkIs(t, impl.Part{Pieces: []impl.Packet{pieceAt(0, "abc", true)}, Until: until}, true)
	}
	for _, until := range noUntils() {
		for _, p := range sampleParts() {
			partOkIs(t, impl.Part{Pieces: p.Pieces, Until: until}, false)
		}
	}
}

func TestP103BytesInAll(t *testing.T) {
	for many := 1; many <= 48; many++ {
		p := partOf(pieceAt(0, string(mixedBytes(1, many)), true), pieceAt(100, string(mixedBytes(2, 48-many)), false))
		partOkIs(t, p, true)
		p.Pieces[1].Data = mixedBytes(2, 49-many)
		partOkIs(t, p, false)
	}
}

func TestP103PartsAreAsDefined(t *testing.T) {
	parts := 0
	for seed := 0; seed < 100000; seed++ {
		p := impl.Part{Until: 20}
		for i := 0; i < 1+seed%4; i++ {
			q := somePiece(seed*4 + i)
			q.Id = q.Id / 4
			q.At += 2 * i
			q.More = len(q.Data) > 0 && (q.More || i < seed%4)
			p.Pieces = append(p.Pieces, q)
		}
		want := partOkAsDefined(p)
		if want && len(p.Pieces) > 1 {
			parts++
		}
		partOkIs(t, p, want)
	}
	if parts < 1000 {
		t.Fatal("too few parts", parts)
	}
}

func TestP103InvalidPartsAreNotOk(t *testing.T) {
	for _, p := range badParts() {
		partOkIs(t, p, false)
	}
	for _, p := range badPackets() {
		partOkIs(t, partOf(pieceAt(0, "abc", true), pieceAt(3, "def", true), p), false)
	}
	many := []impl.Packet{}
	for i := 0; i < 100000; i++ {
		many = append(many, pieceAt(3, "", false))
	}
	partOkIs(t, partOf(many...), false)
}

// partsOkIs fails unless PartsOk tells what is wanted of parts.
func partsOkIs(t *testing.T, list []impl.Part, want bool) {
	t.Helper()
	if got := impl.PartsOk(list); got != want {
		t.Fatal(list, got)
	}
}

// badLists returns lists that are no parts: one of them is none, two are of one packet, or there are too many.
func badLists() [][]impl.Part {
	out := [][]impl.Part{partsOf(1, 2, 3, 4), partsOf(1, 2, 3, 4, 5, 6, 7), partsOf(7, 7), partsOf(7, 8, 7), partsOf(8, 7, 7), partsOf(7, 7, 8), partsOf(0, 0)}
	// The same ones, and such that do not differ in what counts.
	same := partOf(pieceAt(0, "abc", true))
	out = append(out, []impl.Part{same, same})
	out = append(out, []impl.Part{same, {Pieces: []impl.Packet{withHops(pieceAt(100, "x", false), 3)}, Until: 1000000}})
	for _, p := range badParts() {
		rest := partsOf(8, 9)
		out = append(out, []impl.Part{p}, []impl.Part{p, rest[0]}, []impl.Part{rest[0], p}, []impl.Part{rest[0], rest[1], p})
	}
	return out
}

func TestP104PartsOfDifferentPacketsAreOk(t *testing.T) {
	partsOkIs(t, nil, true)
	partsOkIs(t, []impl.Part{}, true)
	for _, p := range sampleParts() {
		partsOkIs(t, []impl.Part{p}, true)
	}
	held := partOf(pieceAt(0, "abc", true))
	for _, other := range ofOthers(pieceAt(0, "abc", true)) {
		partsOkIs(t, []impl.Part{held, partOf(other)}, true)
		partsOkIs(t, []impl.Part{partOf(other), held}, true)
		partsOkIs(t, []impl.Part{held, partOf(other), partOf(other)}, false)
		partsOkIs(t, []impl.Part{held, partOf(other), held}, false)
	}
}

func TestP104FewerPartsAreParts(t *testing.T) {
	all := partsOf(9, 7, 8, 6, 5)
	for many := 0; many <= 5; many++ {
		partsOkIs(t, all[:many], many <= 3)
	}
	// Also of parts that are whole.
	all = []impl.Part{{Pieces: somePieces()[0], Until: 0}, {Pieces: somePieces()[5], Until: 5}, {Pieces: somePieces()[7], Until: 1000000}}
	for many := 0; many <= 3; many++ {
		partsOkIs(t, all[:many], true)
	}
}

func TestP104InvalidListsAreNotOk(t *testing.T) {
	for _, list := range badLists() {
		partsOkIs(t, list, false)
	}
}

// piecesSpoiled and partsSpoiled turn all that there is in pieces or parts, and fill the room behind it.
func piecesSpoiled(pieces []impl.Packet) {
	for i := range pieces {
		bytesSpoiled(pieces[i].Data)
		pieces[i] = impl.Packet{From: 77, Data: filledBytes(77, 3)}
	}
	for i := 0; i < 60; i++ {
		pieces = append(pieces, impl.Packet{From: 77})
	}
}

func partsSpoiled(list []impl.Part) {
	for i := range list {
		piecesSpoiled(list[i].Pieces)
		list[i] = impl.Part{Until: 77}
	}
	for i := 0; i < 10; i++ {
		list = append(list, impl.Part{Until: 77})
	}
}

// piecesAreApart fails if two of the pieces share memory. It spoils them.
func piecesAreApart(t *testing.T, pieces []impl.Packet) {
	t.Helper()
	was := piecesCopied(pieces)
	for i := range pieces {
		bytesSpoiled(pieces[i].Data)
		if !samePieces(pieces[:i], was[:i]) || !samePieces(pieces[i+1:], was[i+1:]) {
			t.Fatal("pieces share memory", was, i)
		}
		bytesSpoiled(pieces[i].Data)
	}
}

// partsAreApart fails if two of the parts, or pieces of them, share memory. It spoils them.
func partsAreApart(t *testing.T, list []impl.Part) {
	t.Helper()
	was := partsCopied(list)
	for i := range list {
		piecesAreApart(t, list[i].Pieces)
		piecesSpoiled(list[i].Pieces)
		if !sameParts(list[i+1:], was[i+1:]) {
			t.Fatal("parts share memory", was, i)
		}
	}
}

// somePuts returns pieces to be put to a part: each of its own, some that fit, and some that do not.
func somePuts(p impl.Part) []impl.Packet {
	out := append([]impl.Packet{}, p.Pieces...)
	for _, at := range []int{0, 2, 3, 6, 8, 9, 10, 48, 255} {
		for _, text := range []string{"", "x", "def"} {
			q := p.Pieces[0]
			q.At = at
			q.Whole = false
			q.Data = []byte(text)
			q.More = len(text) == 1
			out = append(out, q)
		}
	}
	return out
}

func TestChapter5CutsAreNewMemory(t *testing.T) {
	for _, p := range samplePackets() {
		for _, limit := range []int{1, 2, 7, 24, 47, 48} {
			want, _ := cutAsDefined(p, limit)
			given := packetCopied(p)
			got, _ := impl.PacketCut(given, limit)
			packetRoomIsKept(t, given)
			if !samePacket(given, p) {
				t.Fatal("the packet was written", p, given)
			}
			bytesSpoiled(given.Data)
			if !samePieces(got, want) {
				t.Fatal("pieces have memory of the packet", p, got)
			}
			given = packetCopied(p)
			got, _ = impl.PacketCut(given, limit)
			piecesAreApart(t, got)
			piecesSpoiled(got)
			packetRoomIsKept(t, given)
			if !samePacket(given, p) {
				t.Fatal("the packet has memory of pieces", p, given)
			}
		}
	}
}

func TestChapter5WholePacketsAreNewMemory(t *testing.T) {
	for _, p := range sampleParts() {
		want, _ := impl.PartWhole(p)
		want = packetCopied(want)
		given := partCopied(p)
		got, _ := impl.PartWhole(given)
		impl.PartOk(given)
		piecesRoomIsKept(t, given.Pieces)
		if !samePart(given, p) {
			t.Fatal("the part was written", p, given)
		}
		piecesSpoiled(given.Pieces)
		if !samePacket(got, want) {
			t.Fatal("the packet has memory of pieces", p, got)
		}
		given = partCopied(p)
		got, _ = impl.PartWhole(given)
		bytesSpoiled(got.Data)
		piecesRoomIsKept(t, given.Pieces)
		if !samePart(given, p) {
			t.Fatal("pieces have memory of the packet", p, given)
		}
	}
}

func TestChapter5PartsThatArePutAreNewMemory(t *testing.T) {
	for _, p := range sampleParts() {
		for _, q := range somePuts(p) {
			want, _ := putAsDefined(p, q)
			given, piece := partCopied(p), packetCopied(q)
			got, ok := impl.PartPut(given, piece)
			piecesRoomIsKept(t, given.Pieces)
			packetRoomIsKept(t, piece)
			if !samePart(given, p) || !samePacket(piece, q) {
				t.Fatal("what was handed in was written", p, given, q, piece)
			}
			piecesSpoiled(given.Pieces)
			bytesSpoiled(piece.Data)
			if ok && !samePart(got, want) {
				t.Fatal("the answer has memory of what was handed in", p, q, got)
			}
			given, piece = partCopied(p), packetCopied(q)
			got, _ = impl.PartPut(given, piece)
			piecesAreApart(t, got.Pieces)
			piecesSpoiled(got.Pieces)
			piecesRoomIsKept(t, given.Pieces)
			packetRoomIsKept(t, piece)
			if !samePart(given, p) || !samePacket(piece, q) {
				t.Fatal("what was handed in has memory of the answer", p, given, q, piece)
			}
		}
	}
}

// someLists returns lists of parts: one alone, and among others.
func someLists() [][]impl.Part {
	out := [][]impl.Part{}
	for _, p := range sampleParts() {
		rest := partsOf(100, 101)
		p.Until = 21
		out = append(out, []impl.Part{p}, []impl.Part{rest[0], p, rest[1]})
	}
	return out
}

func TestChapter5PartsThatHearAreNewMemory(t *testing.T) {
	for _, list := range someLists() {
		puts := append(somePuts(list[len(list)/2]), pieceAt(0, "new", true), pieceAt(0, "whole", false), pieceAt(9, "", false))
		for _, q := range puts {
			for _, now := range []int{5, 20, 21} {
				hearingIsApart(t, list, q, now)
			}
		}
	}
}

// hearingIsApart fails if what parts become by a packet, and what is whole by it, shares memory with what was handed in, or with each other, or if that is written.
func hearingIsApart(t *testing.T, list []impl.Part, q impl.Packet, now int) {
	t.Helper()
	want, all, _ := partsHeardAsDefined(list, q, now)
	given, piece := partsCopied(list), packetCopied(q)
	impl.PartsOk(given)
	got, whole, _ := impl.PartsHear(given, piece, now)
	partsRoomIsKept(t, given)
	packetRoomIsKept(t, piece)
	if !sameParts(given, list) || !samePacket(piece, q) {
		t.Fatal("what was handed in was written", list, given, q, piece)
	}
	partsSpoiled(given)
	bytesSpoiled(piece.Data)
	if !sameParts(got, want) || !samePacket(whole, all) {
		t.Fatal("the answer has memory of what was handed in", list, q, got, whole)
	}
	given, piece = partsCopied(list), packetCopied(q)
	got, whole, _ = impl.PartsHear(given, piece, now)
	bytesSpoiled(whole.Data)
	if !sameParts(got, want) {
		t.Fatal("parts have memory of the whole packet", list, q, got)
	}
	partsAreApart(t, got)
	partsSpoiled(got)
	partsRoomIsKept(t, given)
	packetRoomIsKept(t, piece)
	if !sameParts(given, list) || !samePacket(piece, q) {
		t.Fatal("what was handed in has memory of the answer", list, given, q, piece)
	}
}
