package tests

import (
	"testing"

	"loop.example/netstack/impl"
)

// faultKinds and otherKinds return the kinds of notes that tell a fault, and those that tell none.
func faultKinds() []int {
	return []int{impl.NoteNoWay, impl.NoteLate, impl.NoteDeaf, impl.NoteLong}
}

func otherKinds() []int {
	return []int{impl.NoteEcho, impl.NoteBack}
}

// noNoteKinds returns kinds of which there are no notes, also such as are kinds in one byte.
func noNoteKinds() []int {
	return []int{least, -254, -253, -3, -1, 0, 7, 8, 255, 256, 257, 259, 262, 65537, greatest}
}

// sampleNotes returns notes of all kinds and lengths, with N at and between both ends.
func sampleNotes() []impl.Note {
	out := []impl.Note{}
	for kind := 1; kind <= 6; kind++ {
		for _, n := range pairNumbers() {
			out = append(out, impl.Note{Kind: kind, N: n})
			out = append(out, impl.Note{Kind: kind, N: n, Data: mixedBytes(n, 20)})
		}
		for many := 0; many <= 20; many++ {
			out = append(out, impl.Note{Kind: kind, N: many * 771, Data: mixedBytes(kind, many)})
			out = append(out, impl.Note{Kind: kind, N: many, Data: filledBytes(byte(kind), many)})
		}
	}
	return out
}

// badNotes returns notes that are none: one thing is out of range, or all are.
func badNotes() []impl.Note {
	out := []impl.Note{
		{},
		{Kind: -1, N: -1, Data: mixedBytes(1, 21)},
		{Kind: 7, N: 65536, Data: mixedBytes(1, 21)},
	}
	for _, kind := range noNoteKinds() {
		out = append(out, impl.Note{Kind: kind})
		out = append(out, impl.Note{Kind: kind, N: 65535, Data: mixedBytes(1, 20)})
	}
	for kind := 1; kind <= 6; kind++ {
		for _, n := range noPairs() {
			out = append(out, impl.Note{Kind: kind, N: n})
			out = append(out, impl.Note{Kind: kind, N: n, Data: mixedBytes(1, 20)})
		}
		for _, many := range []int{21, 22, 24, 44, 45, 48, 49, 128, 255, 256, 257, 260, 276, 277, 65536, 65556} {
			out = append(out, impl.Note{Kind: kind, N: 300, Data: mixedBytes(many, many)})
		}
	}
	return out
}

// noNoteBytes returns bytes that are no note: such as differ from one in a kind, in a count or in a byte, and none.
func noNoteBytes() [][]byte {
	return [][]byte{
		{},
		{3},
		{3, 0, 0},
		{3, 0, 0, 1},
		{3, 0, 0, 0, 0},
		{3, 0, 0, 2, 'h'},
		{3, 0, 0, 2, 'h', 'i', '!'},
		{1, 1, 44, 2, 'h'},
		{1, 1, 44, 2, 'h', 'i', '!'},
		{0, 1, 44, 2, 'h', 'i'},
		{7, 1, 44, 2, 'h', 'i'},
		{255, 1, 44, 2, 'h', 'i'},
		joined([]byte{3, 0, 0, 21}, mixedBytes(1, 21)),
		joined([]byte{1, 0, 0, 21}, mixedBytes(1, 21)),
		joined([]byte{1, 0, 0, 44}, mixedBytes(1, 44)),
		joined([]byte{6, 0, 0, 20}, mixedBytes(1, 21)),
		joined([]byte{6, 0, 0, 20}, mixedBytes(1, 19)),
	}
}

// sameNote reports whether two notes are the same.
func sameNote(a impl.Note, b impl.Note) bool {
	return a.Kind == b.Kind && a.N == b.N && sameBytes(a.Data, b.Data)
}

// noteCopied returns the same note with its bytes in new memory, and room behind them that is filled.
func noteCopied(n impl.Note) impl.Note {
	n.Data = joined(n.Data, filledBytes(9, 80))[:len(n.Data)]
	return n
}

// noteAsBytes returns the bytes of a note by their definition.
func noteAsBytes(n impl.Note) []byte {
	return joined([]byte{byte(n.Kind), byte(n.N / 256), byte(n.N % 256), byte(len(n.Data))}, n.Data)
}

// packetAsBytes returns the bytes of a packet by their definition.
func packetAsBytes(p impl.Packet) []byte {
	return headed(headOf(p), p.Data)
}

// noteOkIs fails unless NoteOk tells what is wanted of a note.
func noteOkIs(t *testing.T, n impl.Note, want bool) {
	t.Helper()
	if got := impl.NoteOk(n); got != want {
		t.Fatal(n, got)
	}
}

// noteBytesAre fails unless a note has the bytes want, and these are it.
func noteBytesAre(t *testing.T, n impl.Note, want []byte) {
	t.Helper()
	if got := impl.NoteBytes(n); !sameBytes(got, want) {
		t.Fatal(n, got, want)
	}
	noteIsRead(t, want, n)
}

// noteIsRead fails unless bytes are the note.
func noteIsRead(t *testing.T, b []byte, want impl.Note) {
	t.Helper()
	if n, ok := impl.NoteFrom(b); !ok || !sameNote(n, want) {
		t.Fatal(b, n, ok, want)
	}
}

// isNoNote fails if bytes are a note, or if what stands beside false is not nothing.
func isNoNote(t *testing.T, b []byte) {
	t.Helper()
	if n, ok := impl.NoteFrom(b); ok || !sameNote(n, impl.Note{}) {
		t.Fatal(b, n, ok)
	}
}

// faultIs fails unless NoteFault tells what is wanted of a packet.
func faultIs(t *testing.T, p impl.Packet, want bool) {
	t.Helper()
	if got := impl.NoteFault(p); got != want {
		t.Fatal(p, got)
	}
}

// noteFrom returns the packet with which a station sends a note to the one who sent p.
func noteFrom(own int, p impl.Packet, n impl.Note) impl.Packet {
	return impl.Packet{From: own, To: p.From, Proto: 1, Hops: 64, Id: p.Id, Data: noteAsBytes(n)}
}

// noteAbout returns a note of a kind about a packet, by the definition.
func noteAbout(p impl.Packet, kind int, n int) impl.Note {
	b := packetAsBytes(p)
	if len(b) > 20 {
		b = b[:20]
	}
	return impl.Note{Kind: kind, N: n, Data: b}
}

// aboutIs fails unless a station tells a fault about a packet with just the packet that is defined.
func aboutIs(t *testing.T, p impl.Packet, own int, kind int, n int) {
	t.Helper()
	want := noteFrom(own, p, noteAbout(p, kind, n))
	if got, ok := impl.NoteAbout(p, own, kind, n); !ok || !samePacket(got, want) {
		t.Fatal(p, own, kind, n, got, ok, want)
	}
	faultIs(t, want, true)
	packetOkIs(t, want, true)
	isNotNotedAbout(t, want)
}

// aboutNothing fails if a station tells a fault about a packet, or if what stands beside false is not nothing.
func aboutNothing(t *testing.T, p impl.Packet, own int, kind int, n int) {
	t.Helper()
	if got, ok := impl.NoteAbout(p, own, kind, n); ok || !samePacket(got, impl.Packet{}) {
		t.Fatal(p, own, kind, n, got, ok)
	}
}

// isNotNotedAbout fails if any station tells a fault about a packet, or answers it with an echo.
func isNotNotedAbout(t *testing.T, p impl.Packet) {
	t.Helper()
	for _, own := range []int{0, p.From, p.To, 65535} {
		for _, kind := range faultKinds() {
			aboutNothing(t, p, own, kind, 0)
			aboutNothing(t, p, own, kind, 65535)
		}
		notEchoed(t, p, own)
	}
}

// echoIs fails unless a station answers a packet, which asks for an echo of a note, with just the packet that is defined.
func echoIs(t *testing.T, p impl.Packet, own int, n impl.Note) {
	t.Helper()
	n.Kind = impl.NoteBack
	want := noteFrom(own, p, n)
	if got, ok := impl.NoteEchoed(p, own); !ok || !samePacket(got, want) {
		t.Fatal(p, own, got, ok, want)
	}
	faultIs(t, want, false)
	packetOkIs(t, want, true)
	for _, to := range []int{0, own, p.From, 65535} {
		notEchoed(t, want, to)
	}
}

// notEchoed fails if a station answers a packet with an echo, or if what stands beside false is not nothing.
func notEchoed(t *testing.T, p impl.Packet, own int) {
	t.Helper()
	if got, ok := impl.NoteEchoed(p, own); ok || !samePacket(got, impl.Packet{}) {
		t.Fatal(p, own, got, ok)
	}
}

// carrying returns a packet of the protocol of notes from 1 to 2 that carries bytes.
func carrying(data []byte) impl.Packet {
	return impl.Packet{From: 1, To: 2, Proto: impl.ProtoNote, Hops: 5, Id: 3, Data: data}
}

// carryingNotes returns packets of the protocol of notes with all samples of notes, between addresses at and between both ends, also from and to the same one.
func carryingNotes() []impl.Packet {
	out := []impl.Packet{}
	addrs := addrEdges()
	for i, n := range sampleNotes() {
		p := carrying(noteAsBytes(n))
		p.From = addrs[i%len(addrs)]
		p.To = addrs[i/len(addrs)%len(addrs)]
		p.Hops = i % 256
		p.Id = 255 - i%256
		p.Whole = i%3 == 0
		out = append(out, p)
	}
	return out
}

func TestP25KnownNotesAsBytes(t *testing.T) {
	noteBytesAre(t, impl.Note{Kind: impl.NoteEcho, N: 300, Data: []byte("hi")}, []byte{1, 1, 44, 2, 'h', 'i'})
	noteBytesAre(t, impl.Note{Kind: impl.NoteBack}, []byte{2, 0, 0, 0})
	noteBytesAre(t, impl.Note{Kind: impl.NoteNoWay, N: 65535, Data: []byte{0}}, []byte{3, 255, 255, 1, 0})
	noteBytesAre(t, impl.Note{Kind: impl.NoteLate, N: 255}, []byte{4, 0, 255, 0})
	noteBytesAre(t, impl.Note{Kind: impl.NoteDeaf, N: 256, Data: []byte{5, 5, 5}}, []byte{5, 1, 0, 3, 5, 5, 5})
	noteBytesAre(t, impl.Note{Kind: impl.NoteLong, N: 20, Data: filledBytes(255, 20)}, joined([]byte{6, 0, 20, 20}, filledBytes(255, 20)))
}

func TestP25NotesAreAsDefined(t *testing.T) {
	for _, n := range sampleNotes() {
		noteBytesAre(t, n, noteAsBytes(n))
	}
}

func TestP25NotesCanBeReadBack(t *testing.T) {
	for _, n := range sampleNotes() {
		b := impl.NoteBytes(n)
		if len(b) != 4+len(n.Data) {
			t.Fatal(n, b)
		}
		noteIsRead(t, b, n)
	}
	for v := 0; v <= 65535; v++ {
		n := impl.Note{Kind: 1 + v%6, N: v, Data: mixedBytes(v, v%21)}
		noteIsRead(t, impl.NoteBytes(n), n)
	}
}

func TestP25InvalidNotesHaveNoBytes(t *testing.T) {
	for _, n := range badNotes() {
		if b := impl.NoteBytes(n); len(b) != 0 {
			t.Fatal(n, b)
		}
	}
}

func TestP26AByteLessOrMoreIsNoNote(t *testing.T) {
	for _, n := range sampleNotes() {
		b := impl.NoteBytes(n)
		for many := 0; many < len(b); many++ {
			isNoNote(t, b[:many])
		}
		for x := 0; x <= 255; x++ {
			isNoNote(t, joined(b, []byte{byte(x)}))
		}
		isNoNote(t, joined(b, b))
		isNoNote(t, joined(b, filledBytes(0, 256)))
		isNoNote(t, joined(b, filledBytes(0, 65536)))
	}
}

func TestP26FewerBytesThanAHead(t *testing.T) {
	isNoNote(t, nil)
	for many := 0; many < 4; many++ {
		for x := 0; x <= 255; x++ {
			isNoNote(t, filledBytes(byte(x), many))
		}
	}
}

func TestP26CountsThatDoNotFit(t *testing.T) {
	for many := 0; many <= 300; many++ {
		data := mixedBytes(many, many)
		for count := 0; count <= 255; count++ {
			b := joined([]byte{4, 1, 44, byte(count)}, data)
			if count == many && many <= 20 {
				noteIsRead(t, b, impl.Note{Kind: 4, N: 300, Data: data})
			} else {
				isNoNote(t, b)
			}
		}
	}
}

func TestP26KindsThatThereAreNot(t *testing.T) {
	for kind := 0; kind <= 255; kind++ {
		for many := 0; many <= 21; many++ {
			n := impl.Note{Kind: kind, N: 4660, Data: mixedBytes(kind, many)}
			if kind >= 1 && kind <= 6 && many <= 20 {
				noteIsRead(t, noteAsBytes(n), n)
			} else {
				isNoNote(t, noteAsBytes(n))
			}
		}
	}
}

func TestP26WhatIsReadWasTold(t *testing.T) {
	read := 0
	for seed := 0; seed < 100000; seed++ {
		b := mixedBytes(seed, seed%30)
		if len(b) >= 4 {
			b[0] = b[0] % 9
			b[3] = byte(len(b)-4) + b[3]%3
		}
		n, ok := impl.NoteFrom(b)
		if !ok {
			isNoNote(t, b)
			continue
		}
		read++
		noteOkIs(t, n, true)
		noteBytesAre(t, n, b)
		isNoNote(t, joined(b, []byte{byte(seed)}))
	}
	if read < 1000 {
		t.Fatal("too few notes were read", read)
	}
}

func TestP26NoNoteIsReadOfOthers(t *testing.T) {
	for _, b := range noNoteBytes() {
		isNoNote(t, b)
	}
}

func TestP27KnownFaults(t *testing.T) {
	p := impl.Packet{From: 1, To: 258, Proto: 6, Hops: 2, Id: 9, Data: []byte("abc")}
	told, ok := impl.NoteAbout(p, 7, impl.NoteLong, 300)
	note := []byte{6, 1, 44, 15, 0, 1, 1, 2, 6, 2, 9, 0, 0, 3, 239, 247, 'a', 'b', 'c'}
	if !ok || !samePacket(told, impl.Packet{From: 7, To: 1, Proto: 1, Hops: 64, Id: 9, Data: note}) {
		t.Fatal(told, ok)
	}
	p = impl.Packet{}
	told, ok = impl.NoteAbout(p, 65535, impl.NoteNoWay, 0)
	note = []byte{3, 0, 0, 12, 0, 0, 0, 0, 0, 0, 0, 0, 0, 0, 255, 255}
	if !ok || !samePacket(told, impl.Packet{From: 65535, Proto: 1, Hops: 64, Data: note}) {
		t.Fatal(told, ok)
	}
	p = impl.Packet{From: 258, To: 772, Proto: 1, Hops: 64, Id: 5, Whole: true, Data: []byte("0123456789")}
	told, ok = impl.NoteAbout(p, 0, impl.NoteDeaf, 65535)
	note = []byte{5, 255, 255, 20, 1, 2, 3, 4, 1, 64, 5, 0, 2, 10, 243, 175, '0', '1', '2', '3', '4', '5', '6', '7'}
	if !ok || !samePacket(told, impl.Packet{To: 258, Proto: 1, Hops: 64, Id: 5, Data: note}) {
		t.Fatal(told, ok)
	}
}

func TestP27FaultsAreAsDefined(t *testing.T) {
	for i, p := range samplePackets() {
		p.At = 0
		for _, kind := range faultKinds() {
			for _, own := range []int{0, 9, p.From, p.To, 65535} {
				aboutIs(t, p, own, kind, pairNumbers()[i%len(pairNumbers())])
			}
		}
	}
}

func TestP27TheFirstTwentyBytesAreTold(t *testing.T) {
	for many := 0; many <= impl.MaxPacket; many++ {
		p := impl.Packet{From: 1, To: 2, Proto: 6, Hops: 3, Id: 9, Data: mixedBytes(many, many)}
		told, ok := impl.NoteAbout(p, 7, impl.NoteLate, many)
		n, read := impl.NoteFrom(told.Data)
		want := 20
		if many < 8 {
			want = 12 + many
		}
		if !ok || !read || n.Kind != impl.NoteLate || n.N != many || !sameBytes(n.Data, packetAsBytes(p)[:want]) {
			t.Fatal(many, told, n)
		}
	}
}

func TestP27AddressesAndNumbersInRange(t *testing.T) {
	for _, v := range addrEdges() {
		for _, w := range addrEdges() {
			for _, data := range [][]byte{nil, {7}, mixedBytes(1, 48)} {
				p := impl.Packet{From: v, To: w, Proto: 1, Hops: 64, Id: 1, Data: data}
				aboutIs(t, p, 9, impl.NoteNoWay, 0)
				aboutIs(t, p, v, impl.NoteLate, w)
				aboutIs(t, p, w, impl.NoteDeaf, v)
			}
		}
	}
	for v := 0; v <= 65535; v++ {
		p := impl.Packet{From: 1, To: 2, Proto: 6, Hops: v % 256, Id: v / 256}
		if got, ok := impl.NoteAbout(p, 65535-v, impl.NoteLong, v); !ok || !samePacket(got, noteFrom(65535-v, p, noteAbout(p, impl.NoteLong, v))) {
			t.Fatal(v, got, ok)
		}
	}
}

func TestP27FaultsDoNotBreed(t *testing.T) {
	for _, kind := range faultKinds() {
		for many := 0; many <= 20; many++ {
			n := impl.Note{Kind: kind, N: many, Data: mixedBytes(many, many)}
			p := carrying(noteAsBytes(n))
			isNotNotedAbout(t, p)
			p.Whole = true
			isNotNotedAbout(t, p)
			// What is behind, and where it is, does not matter of what is a fault.
			p.Whole = false
			p.More = true
			isNotNotedAbout(t, p)
			p.At = 5
			isNotNotedAbout(t, p)
			p.Hops = 0
			isNotNotedAbout(t, p)
		}
	}
}

func TestP27ManyFaultsAboutOnePacketAreOne(t *testing.T) {
	for _, p := range samplePackets() {
		p.At = 0
		told, ok := impl.NoteAbout(p, 7, impl.NoteNoWay, 0)
		if !ok || told.To != p.From || !impl.PacketOk(told) || !impl.NoteFault(told) {
			t.Fatal(p, told, ok)
		}
		b := impl.PacketBytes(told)
		for hops := 63; hops > 0; hops-- {
			next, passes := impl.PacketPassed(b)
			came, read := impl.PacketFrom(next)
			if !passes || !read || !impl.NoteFault(came) {
				t.Fatal(p, hops, next)
			}
			isNotNotedAbout(t, came)
			b = next
		}
	}
}

func TestP27AboutNotesThatTellNoneAFaultIsTold(t *testing.T) {
	for _, kind := range otherKinds() {
		for many := 0; many <= 20; many++ {
			p := carrying(noteAsBytes(impl.Note{Kind: kind, N: 300, Data: mixedBytes(many, many)}))
			for _, fault := range faultKinds() {
				aboutIs(t, p, 2, fault, 0)
				aboutIs(t, p, 1, fault, 65535)
			}
		}
	}
}

func TestP27WhatIsNoNoteIsNoFault(t *testing.T) {
	for _, b := range noNoteBytes() {
		aboutIs(t, carrying(b), 9, impl.NoteDeaf, 0)
	}
	// A fault of another protocol is one of these bytes alone.
	for proto := 0; proto <= 255; proto++ {
		p := carrying([]byte{3, 0, 0, 2, 'h', 'i'})
		p.Proto = proto
		if proto == impl.ProtoNote {
			isNotNotedAbout(t, p)
		} else {
			aboutIs(t, p, 9, impl.NoteLate, 0)
		}
	}
}

func TestP27AFirstPieceIsNotedAbout(t *testing.T) {
	for _, p := range samplePackets() {
		p.Proto = 6
		p.Whole = false
		for at := 0; at <= 255; at++ {
			p.At = at
			for _, more := range []bool{false, len(p.Data) > 0} {
				p.More = more
				if at == 0 {
					aboutIs(t, p, 9, impl.NoteNoWay, 1)
				} else {
					aboutNothing(t, p, 9, impl.NoteNoWay, 1)
				}
			}
		}
	}
}

func TestP27APieceOfAFaultIsNoFault(t *testing.T) {
	fault := carrying(noteAsBytes(impl.Note{Kind: impl.NoteLate, Data: mixedBytes(1, 20)}))
	for limit := 1; limit < 24; limit++ {
		pieces, _ := impl.PacketCut(fault, limit)
		faultIs(t, pieces[0], false)
		aboutIs(t, pieces[0], 9, impl.NoteNoWay, 0)
		for _, p := range pieces[1:] {
			aboutNothing(t, p, 9, impl.NoteNoWay, 0)
		}
	}
}

func TestP27KindsThatAreNoFaults(t *testing.T) {
	p := impl.Packet{From: 1, To: 2, Proto: 6, Hops: 3, Id: 9, Data: []byte("abc")}
	for kind := -300; kind <= 300; kind++ {
		if kind >= 3 && kind <= 6 {
			aboutIs(t, p, 9, kind, 300)
		} else {
			aboutNothing(t, p, 9, kind, 300)
		}
	}
	for _, kind := range append(noNoteKinds(), otherKinds()...) {
		for _, q := range samplePackets() {
			aboutNothing(t, q, 9, kind, 300)
		}
	}
}

func TestP27NothingIsToldOfNumbersOutOfRange(t *testing.T) {
	for _, p := range samplePackets() {
		p.At = 0
		for _, kind := range faultKinds() {
			for _, n := range noPairs() {
				aboutNothing(t, p, 9, kind, n)
			}
			for _, own := range noAddrs() {
				aboutNothing(t, p, own, kind, 0)
			}
		}
	}
}

func TestP27NothingIsToldAboutWhatIsNoPacket(t *testing.T) {
	for _, p := range badPackets() {
		for _, kind := range faultKinds() {
			aboutNothing(t, p, 9, kind, 0)
			aboutNothing(t, p, p.To, kind, 0)
		}
		// One thing out of range is enough, also at 0.
		p.At = 0
		if !impl.PacketOk(p) {
			aboutNothing(t, p, 9, impl.NoteLate, 0)
		}
	}
}

func TestP28KnownEchoes(t *testing.T) {
	ask := carrying([]byte{1, 1, 44, 2, 'h', 'i'})
	back, ok := impl.NoteEchoed(ask, 2)
	if !ok || !samePacket(back, impl.Packet{From: 2, To: 1, Proto: 1, Hops: 64, Id: 3, Data: []byte{2, 1, 44, 2, 'h', 'i'}}) {
		t.Fatal(back, ok)
	}
	ask = impl.Packet{From: 65535, Proto: 1, Id: 255, Whole: true, Data: []byte{1, 255, 255, 0}}
	back, ok = impl.NoteEchoed(ask, 0)
	if !ok || !samePacket(back, impl.Packet{To: 65535, Proto: 1, Hops: 64, Id: 255, Data: []byte{2, 255, 255, 0}}) {
		t.Fatal(back, ok)
	}
}

func TestP28EchoesAreAsDefined(t *testing.T) {
	packets := carryingNotes()
	for i, n := range sampleNotes() {
		p := packets[i]
		if n.Kind == impl.NoteEcho {
			echoIs(t, p, p.To, n)
		} else {
			notEchoed(t, p, p.To)
		}
	}
}

func TestP28AddressesAndNumbersOfEchoes(t *testing.T) {
	for _, from := range addrEdges() {
		for _, to := range addrEdges() {
			for _, b := range byteEdges() {
				for _, many := range []int{0, 1, 20} {
					n := impl.Note{Kind: impl.NoteEcho, N: from, Data: mixedBytes(b, many)}
					p := impl.Packet{From: from, To: to, Proto: 1, Hops: b, Id: 255 - b, Whole: b%2 == 0, Data: noteAsBytes(n)}
					echoIs(t, p, to, n)
				}
			}
		}
	}
}

func TestP28AnAnswerIsNotAnswered(t *testing.T) {
	for _, p := range carryingNotes() {
		back, ok := impl.NoteEchoed(p, p.To)
		if !ok {
			continue
		}
		if !impl.PacketOk(back) || back.To != p.From || impl.NoteFault(back) {
			t.Fatal(p, back)
		}
		for _, own := range addrEdges() {
			notEchoed(t, back, own)
		}
	}
}

func TestP28JustTheStationItselfAnswers(t *testing.T) {
	for _, p := range carryingNotes() {
		for _, own := range append(addrEdges(), noAddrs()...) {
			if own != p.To {
				notEchoed(t, p, own)
			}
		}
	}
	p := carrying([]byte{1, 1, 44, 2, 'h', 'i'})
	for own := -3; own <= 70000; own++ {
		if own != 2 {
			notEchoed(t, p, own)
		}
	}
}

func TestP28PiecesAreNotAnswered(t *testing.T) {
	for _, data := range [][]byte{{1, 1, 44, 2, 'h', 'i'}, {1, 0, 0, 0}, joined([]byte{1, 0, 0, 20}, mixedBytes(1, 20))} {
		p := carrying(data)
		p.More = true
		notEchoed(t, p, 2)
		for at := 1; at <= 255; at++ {
			p.At = at
			p.More = false
			notEchoed(t, p, 2)
			p.More = true
			notEchoed(t, p, 2)
		}
	}
}

func TestP28OtherProtocolsAreNotAnswered(t *testing.T) {
	p := carrying([]byte{1, 1, 44, 2, 'h', 'i'})
	for proto := 0; proto <= 255; proto++ {
		p.Proto = proto
		if proto == impl.ProtoNote {
			echoIs(t, p, 2, impl.Note{N: 300, Data: []byte("hi")})
		} else {
			notEchoed(t, p, 2)
		}
	}
}

func TestP28OtherKindsAreNotAnswered(t *testing.T) {
	for kind := 0; kind <= 255; kind++ {
		for _, many := range []int{0, 1, 19, 20} {
			n := impl.Note{Kind: kind, N: 256, Data: mixedBytes(kind, many)}
			p := carrying(noteAsBytes(n))
			if kind == impl.NoteEcho {
				echoIs(t, p, 2, n)
			} else {
				notEchoed(t, p, 2)
			}
		}
	}
}

func TestP28WhatIsNoNoteIsNotAnswered(t *testing.T) {
	for _, b := range noNoteBytes() {
		notEchoed(t, carrying(b), 2)
	}
	for _, p := range samplePackets() {
		p.Proto = impl.ProtoNote
		if _, ok := impl.NoteFrom(p.Data); !ok {
			notEchoed(t, p, p.To)
		}
	}
}

func TestP28WhatIsNoPacketIsNotAnswered(t *testing.T) {
	for _, p := range badPackets() {
		notEchoed(t, p, p.To)
		// It is none, though it asks.
		p.Proto = impl.ProtoNote
		p.Data = []byte{1, 1, 44, 2, 'h', 'i'}
		if !impl.PacketOk(p) {
			notEchoed(t, p, p.To)
		}
		p.At = 0
		p.More = false
		if !impl.PacketOk(p) {
			notEchoed(t, p, p.To)
		}
	}
}

func TestP107NotesInRangeAreOk(t *testing.T) {
	for _, n := range sampleNotes() {
		noteOkIs(t, n, true)
	}
	for v := -3; v <= 300; v++ {
		noteOkIs(t, impl.Note{Kind: v}, v >= 1 && v <= 6)
		noteOkIs(t, impl.Note{Kind: v, N: 65535, Data: mixedBytes(1, 20)}, v >= 1 && v <= 6)
		noteOkIs(t, impl.Note{Kind: 1, N: v}, v >= 0)
		noteOkIs(t, impl.Note{Kind: 6, N: v + 65400}, v+65400 <= 65535)
	}
	for many := 0; many <= 300; many++ {
		for kind := 1; kind <= 6; kind++ {
			noteOkIs(t, impl.Note{Kind: kind, Data: filledBytes(0, many)}, many <= 20)
		}
	}
}

func TestP107ANoteWithoutBytesIsANote(t *testing.T) {
	for _, n := range append(sampleNotes(), badNotes()...) {
		without := impl.Note{Kind: n.Kind, N: n.N}
		noteOkIs(t, without, n.Kind >= 1 && n.Kind <= 6 && n.N >= 0 && n.N <= 65535)
		without.Data = []byte{}
		noteOkIs(t, without, n.Kind >= 1 && n.Kind <= 6 && n.N >= 0 && n.N <= 65535)
	}
}

func TestP107ThereIsNoNoteOfTheKindNothing(t *testing.T) {
	for _, n := range sampleNotes() {
		n.Kind = 0
		noteOkIs(t, n, false)
		n.Data = nil
		noteOkIs(t, n, false)
	}
}

func TestP107InvalidNotesAreNotOk(t *testing.T) {
	for _, n := range badNotes() {
		noteOkIs(t, n, false)
	}
}

func TestP108FaultsAreTold(t *testing.T) {
	packets := carryingNotes()
	for i, n := range sampleNotes() {
		faultIs(t, packets[i], n.Kind >= 3)
	}
}

func TestP108AFaultIsOfTheProtocolOfNotes(t *testing.T) {
	protos := append(noBytes(), byteEdges()...)
	packets := carryingNotes()
	for i, n := range sampleNotes() {
		p := packets[i]
		for _, proto := range protos {
			p.Proto = proto
			faultIs(t, p, proto == 1 && n.Kind >= 3)
		}
	}
	for proto := -3; proto <= 300; proto++ {
		p := carrying([]byte{4, 0, 0, 0})
		p.Proto = proto
		faultIs(t, p, proto == 1)
	}
}

func TestP108APacketNeedNotBeOk(t *testing.T) {
	for _, p := range append(badPackets(), samplePackets()...) {
		p.Proto = impl.ProtoNote
		for kind := 0; kind <= 7; kind++ {
			p.Data = noteAsBytes(impl.Note{Kind: kind, N: 300, Data: []byte("hi")})
			faultIs(t, p, kind >= 3 && kind <= 6)
		}
	}
}

func TestP108WhatIsNoNoteTellsNoFault(t *testing.T) {
	for _, b := range noNoteBytes() {
		faultIs(t, carrying(b), false)
	}
	for _, kind := range faultKinds() {
		for many := 0; many <= 20; many++ {
			b := noteAsBytes(impl.Note{Kind: kind, N: 1, Data: mixedBytes(many, many)})
			faultIs(t, carrying(b), true)
			faultIs(t, carrying(b[:len(b)-1]), false)
			faultIs(t, carrying(joined(b, []byte{0})), false)
			faultIs(t, carrying(joined(b, filledBytes(0, 256))), false)
		}
		faultIs(t, carrying(noteAsBytes(impl.Note{Kind: kind, Data: filledBytes(0, 21)})), false)
	}
}

func TestChapter7WritesNoArguments(t *testing.T) {
	for _, n := range sampleNotes() {
		given := noteCopied(n)
		impl.NoteOk(given)
		impl.NoteBytes(given)
		if !sameBytes(given.Data[:len(n.Data)+80], joined(n.Data, filledBytes(9, 80))) {
			t.Fatal(n, given)
		}
		b := joined(noteAsBytes(n), filledBytes(9, 80))
		impl.NoteFrom(b[:len(b)-80])
		if !sameBytes(b, joined(noteAsBytes(n), filledBytes(9, 80))) {
			t.Fatal(n, b)
		}
	}
	for _, p := range append(carryingNotes(), samplePackets()...) {
		given := packetCopied(p)
		impl.NoteFault(given)
		impl.NoteEchoed(given, p.To)
		for _, kind := range faultKinds() {
			impl.NoteAbout(given, 9, kind, 300)
		}
		packetRoomIsKept(t, given)
		if !samePacket(given, p) {
			t.Fatal(p, given)
		}
	}
}

func TestChapter7BytesOfNotesAreNewMemory(t *testing.T) {
	for _, n := range sampleNotes() {
		want := noteAsBytes(n)
		given := noteCopied(n)
		b := impl.NoteBytes(given)
		bytesSpoiled(given.Data)
		if !sameBytes(b, want) {
			t.Fatal("the bytes have memory of the note", n, b)
		}
		given = noteCopied(n)
		bytesSpoiled(impl.NoteBytes(given))
		if !sameBytes(given.Data[:len(n.Data)+80], joined(n.Data, filledBytes(9, 80))) {
			t.Fatal("the note has memory of the bytes", n, given)
		}
	}
}

func TestChapter7NotesThatAreReadAreNewMemory(t *testing.T) {
	for _, n := range sampleNotes() {
		want := noteAsBytes(n)
		room := joined(want, filledBytes(9, 80))
		got, _ := impl.NoteFrom(room[:len(want)])
		bytesSpoiled(room[:len(want)])
		if !sameNote(got, n) {
			t.Fatal("the note has memory of the bytes", n, got)
		}
		room = joined(want, filledBytes(9, 80))
		got, _ = impl.NoteFrom(room[:len(want)])
		bytesSpoiled(got.Data)
		if !sameBytes(room, joined(want, filledBytes(9, 80))) {
			t.Fatal("the bytes have memory of the note", n, room)
		}
	}
}

func TestChapter7FaultsAreNewMemory(t *testing.T) {
	for _, p := range samplePackets() {
		p.At = 0
		want := noteFrom(9, p, noteAbout(p, impl.NoteLong, 20))
		given := packetCopied(p)
		got, _ := impl.NoteAbout(given, 9, impl.NoteLong, 20)
		bytesSpoiled(given.Data)
		if !samePacket(got, want) {
			t.Fatal("the fault has memory of the packet", p, got)
		}
		given = packetCopied(p)
		got, _ = impl.NoteAbout(given, 9, impl.NoteLong, 20)
		bytesSpoiled(got.Data)
		packetRoomIsKept(t, given)
		if !samePacket(given, p) {
			t.Fatal("the packet has memory of the fault", p, given)
		}
	}
}

func TestChapter7EchoesAreNewMemory(t *testing.T) {
	packets := carryingNotes()
	for i, n := range sampleNotes() {
		if n.Kind != impl.NoteEcho {
			continue
		}
		p := packets[i]
		n.Kind = impl.NoteBack
		want := noteFrom(p.To, p, n)
		given := packetCopied(p)
		got, _ := impl.NoteEchoed(given, p.To)
		bytesSpoiled(given.Data)
		if !samePacket(got, want) {
			t.Fatal("the echo has memory of the packet", p, got)
		}
		given = packetCopied(p)
		got, _ = impl.NoteEchoed(given, p.To)
		bytesSpoiled(got.Data)
		packetRoomIsKept(t, given)
		if !samePacket(given, p) {
			t.Fatal("the packet has memory of the echo", p, given)
		}
	}
}
