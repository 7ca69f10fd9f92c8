package tests

import (
	"testing"

	"loop.example/netstack/impl"
)

// byteEdges and noBytes return numbers in 0..255, both ends and what is next to them among them, and numbers out of it, also such as are in it in one byte.
func byteEdges() []int {
	return []int{0, 1, 2, 3, 127, 128, 254, 255}
}

func noBytes() []int {
	return []int{least, -65536, -256, -255, -1, 256, 257, 320, 511, 65536, greatest}
}

// samplePackets returns packets of all lengths, with and without each mark, at and between the ends of all ranges, and such whose sums are 0 or 65535.
func samplePackets() []impl.Packet {
	out := []impl.Packet{
		{From: 1, To: 258, Proto: 6, Hops: 2, Id: 9, Data: []byte("abc")},
		{From: 258, To: 772, Proto: 1, Hops: 64, Id: 5, Whole: true},
		{From: 65535, To: 65535, Proto: 255, Hops: 255, Id: 255, At: 255, More: true, Data: filledBytes(255, impl.MaxPacket)},
		{From: 7, To: 7, Proto: 2, Hops: 1, Whole: true, Data: filledBytes(0, impl.MaxPacket)},
		{From: 1, To: 2, Hops: 255, More: true, Data: []byte{0}},
	}
	out = append(out, edgeSums()...)
	for n := 0; n <= impl.MaxPacket; n++ {
		x := mixedBytes(n, 8)
		p := impl.Packet{From: int(x[0])*256 + int(x[1]), To: int(x[2])*256 + int(x[3]), Proto: int(x[4]), Hops: int(x[5]), Id: int(x[6]), Data: mixedBytes(n+100, n)}
		out = append(out, p)
		p.Whole = true
		out = append(out, p)
		p.Whole = false
		p.At = int(x[7])
		out = append(out, p)
		if n > 0 {
			p.More = true
			out = append(out, p)
		}
	}
	return out
}

// edgeSums returns packets whose sums are 65535, 0, and what is next to these.
func edgeSums() []impl.Packet {
	return []impl.Packet{
		{},
		{From: 65535},
		{To: 65535},
		{From: 65535, To: 65535},
		{From: 65533, Hops: 2},
		{From: 65532, Hops: 2, Data: []byte{7}},
		{From: 65534, Hops: 2},
		{From: 65535, Hops: 2},
		{From: 65280, Hops: 255},
		{From: 65281, Hops: 255},
	}
}

// badPackets returns packets that are none: one thing is out of range, or several are, or the marks do not fit.
func badPackets() []impl.Packet {
	out := []impl.Packet{
		{From: -1, To: -1, Proto: -1, Hops: -1, Id: -1, At: -1},
		{From: 65536, To: 65536, Proto: 256, Hops: 256, Id: 256, At: 256, Data: mixedBytes(1, 49)},
		{More: true},
		{More: true, At: 255},
		{More: true, Data: []byte{}},
		{More: true, Whole: true},
		{More: true, Whole: true, Data: []byte("abc")},
		{More: true, Whole: true, At: 3, Data: []byte("abc")},
	}
	for _, v := range noAddrs() {
		out = append(out, impl.Packet{From: v, To: 2, Proto: 6, Hops: 3, Data: []byte("abc")})
		out = append(out, impl.Packet{From: 1, To: v, Proto: 6, Hops: 3})
	}
	for _, v := range noBytes() {
		out = append(out, impl.Packet{From: 1, To: 2, Proto: v, Hops: 3, Data: []byte("abc")})
		out = append(out, impl.Packet{From: 1, To: 2, Proto: 6, Hops: v})
		out = append(out, impl.Packet{From: 1, To: 2, Proto: 6, Hops: 3, Id: v, Data: []byte("abc")})
		out = append(out, impl.Packet{From: 1, To: 2, Proto: 6, Hops: 3, At: v})
		out = append(out, impl.Packet{From: 1, To: 2, Proto: 6, Hops: 3, At: v, More: true, Data: []byte("abc")})
	}
	for _, at := range []int{-1, 1, 2, 128, 255, 256} {
		out = append(out, impl.Packet{From: 1, To: 2, Proto: 6, Hops: 3, At: at, Whole: true})
		out = append(out, impl.Packet{From: 1, To: 2, Proto: 6, Hops: 3, At: at, Whole: true, Data: []byte("abc")})
	}
	for _, n := range []int{49, 50, 64, 128, 255, 256, 257, 300, 65536} {
		out = append(out, impl.Packet{From: 1, To: 2, Proto: 6, Hops: 3, Data: mixedBytes(n, n)})
		out = append(out, impl.Packet{From: 1, To: 2, Proto: 6, Hops: 3, Data: mixedBytes(n, n), More: true})
		out = append(out, impl.Packet{From: 1, To: 2, Proto: 6, Hops: 3, Data: mixedBytes(n, n), Whole: true})
	}
	return out
}

// packetCopied returns the same packet with its bytes in new memory, and room behind them that is filled.
func packetCopied(p impl.Packet) impl.Packet {
	p.Data = joined(p.Data, filledBytes(9, 80))[:len(p.Data)]
	return p
}

// samePacket reports whether two packets are the same.
func samePacket(a impl.Packet, b impl.Packet) bool {
	numbers := a.From == b.From && a.To == b.To && a.Proto == b.Proto && a.Hops == b.Hops && a.Id == b.Id && a.At == b.At
	return numbers && a.More == b.More && a.Whole == b.Whole && sameBytes(a.Data, b.Data)
}

// headOf returns what the head of a packet tells, ahead of its sum, by its definition.
func headOf(p impl.Packet) []byte {
	marks := byte(0)
	if p.More {
		marks = 1
	}
	if p.Whole {
		marks += 2
	}
	out := []byte{byte(p.From / 256), byte(p.From % 256), byte(p.To / 256), byte(p.To % 256)}
	return append(out, byte(p.Proto), byte(p.Hops), byte(p.Id), byte(p.At), marks, byte(len(p.Data)))
}

// headed returns bytes behind a head that tells what is told, with its right sum.
func headed(told []byte, data []byte) []byte {
	return joined(summed(told), data)
}

// withSum returns the bytes of a packet with another sum.
func withSum(b []byte, sum int) []byte {
	out := copied(b)
	out[10] = byte(sum / 256)
	out[11] = byte(sum % 256)
	return out
}

// packetBytesAre fails unless a packet has the bytes want, and these are it.
func packetBytesAre(t *testing.T, p impl.Packet, want []byte) {
	t.Helper()
	if got := impl.PacketBytes(p); !sameBytes(got, want) {
		t.Fatal(p, got, want)
	}
	packetIsRead(t, want, p)
}

// packetIsRead fails unless bytes are the packet.
func packetIsRead(t *testing.T, b []byte, want impl.Packet) {
	t.Helper()
	if p, ok := impl.PacketFrom(b); !ok || !samePacket(p, want) {
		t.Fatal(b, p, ok, want)
	}
}

// isNoPacket fails if bytes are a packet, or pass a station, or if what stands beside false is not nothing.
func isNoPacket(t *testing.T, b []byte) {
	t.Helper()
	if p, ok := impl.PacketFrom(b); ok || !samePacket(p, impl.Packet{}) {
		t.Fatal(b, p, ok)
	}
	passesNothing(t, b)
}

// passesNothing fails if bytes pass a station, or if what stands beside false is not nothing.
func passesNothing(t *testing.T, b []byte) {
	t.Helper()
	if out, ok := impl.PacketPassed(b); ok || len(out) != 0 {
		t.Fatal(b, out, ok)
	}
}

// passedIs fails unless bytes that pass a station are want.
func passedIs(t *testing.T, b []byte, want []byte) {
	t.Helper()
	if out, ok := impl.PacketPassed(b); !ok || !sameBytes(out, want) {
		t.Fatal(b, out, ok, want)
	}
}

// packetOkIs fails unless PacketOk tells what is wanted of a packet.
func packetOkIs(t *testing.T, p impl.Packet, want bool) {
	t.Helper()
	if got := impl.PacketOk(p); got != want {
		t.Fatal(p, got)
	}
}

func TestP12KnownPacketsAsBytes(t *testing.T) {
	p := impl.Packet{From: 1, To: 258, Proto: 6, Hops: 2, Id: 9, Data: []byte("abc")}
	packetBytesAre(t, p, []byte{0, 1, 1, 2, 6, 2, 9, 0, 0, 3, 239, 247, 'a', 'b', 'c'})
	p = impl.Packet{From: 258, To: 772, Proto: 1, Hops: 64, Id: 5, Whole: true}
	packetBytesAre(t, p, []byte{1, 2, 3, 4, 1, 64, 5, 0, 2, 0, 243, 185})
	p = impl.Packet{From: 65535, To: 65535, Proto: 255, Hops: 255, Id: 255, At: 255, More: true, Data: filledBytes(9, 48)}
	packetBytesAre(t, p, joined([]byte{255, 255, 255, 255, 255, 255, 255, 255, 1, 48, 254, 207}, filledBytes(9, 48)))
	p = impl.Packet{To: 256, Proto: 2, Hops: 255, At: 255, Data: []byte{0}}
	packetBytesAre(t, p, []byte{0, 0, 1, 0, 2, 255, 0, 255, 0, 1, 251, 0, 0})
	packetBytesAre(t, impl.Packet{}, []byte{0, 0, 0, 0, 0, 0, 0, 0, 0, 0, 255, 255})
	packetBytesAre(t, impl.Packet{From: 65535}, []byte{255, 255, 0, 0, 0, 0, 0, 0, 0, 0, 0, 0})
	packetBytesAre(t, impl.Packet{Hops: 1}, []byte{0, 0, 0, 0, 0, 1, 0, 0, 0, 0, 255, 254})
}

func TestP12PacketsAreAsDefined(t *testing.T) {
	for _, p := range samplePackets() {
		packetBytesAre(t, p, headed(headOf(p), p.Data))
	}
}

func TestP12PacketsCanBeReadBack(t *testing.T) {
	for _, p := range samplePackets() {
		b := impl.PacketBytes(p)
		packetIsRead(t, b, p)
		if len(b) != impl.PacketHead+len(p.Data) || len(b) != 12+len(p.Data) {
			t.Fatal(p, b)
		}
	}
}

func TestP12EachNumberStandsInItsPlace(t *testing.T) {
	for v := 0; v <= 255; v++ {
		packetBytesAre(t, impl.Packet{Proto: v}, headed([]byte{0, 0, 0, 0, byte(v), 0, 0, 0, 0, 0}, nil))
		packetBytesAre(t, impl.Packet{Hops: v}, headed([]byte{0, 0, 0, 0, 0, byte(v), 0, 0, 0, 0}, nil))
		packetBytesAre(t, impl.Packet{Id: v}, headed([]byte{0, 0, 0, 0, 0, 0, byte(v), 0, 0, 0}, nil))
		packetBytesAre(t, impl.Packet{At: v}, headed([]byte{0, 0, 0, 0, 0, 0, 0, byte(v), 0, 0}, nil))
	}
	for _, v := range addrEdges() {
		packetBytesAre(t, impl.Packet{From: v}, headed([]byte{byte(v / 256), byte(v % 256), 0, 0, 0, 0, 0, 0, 0, 0}, nil))
		packetBytesAre(t, impl.Packet{To: v}, headed([]byte{0, 0, byte(v / 256), byte(v % 256), 0, 0, 0, 0, 0, 0}, nil))
	}
}

func TestP12MarksAreAddedUp(t *testing.T) {
	packetBytesAre(t, impl.Packet{Data: []byte{5}}, headed([]byte{0, 0, 0, 0, 0, 0, 0, 0, 0, 1}, []byte{5}))
	packetBytesAre(t, impl.Packet{More: true, Data: []byte{5}}, headed([]byte{0, 0, 0, 0, 0, 0, 0, 0, 1, 1}, []byte{5}))
	packetBytesAre(t, impl.Packet{Whole: true, Data: []byte{5}}, headed([]byte{0, 0, 0, 0, 0, 0, 0, 0, 2, 1}, []byte{5}))
	both := impl.Packet{More: true, Whole: true, Data: []byte{5}}
	if b := impl.PacketBytes(both); len(b) != 0 {
		t.Fatal(b)
	}
	isNoPacket(t, headed([]byte{0, 0, 0, 0, 0, 0, 0, 0, 3, 1}, []byte{5}))
}

func TestP12InvalidPacketsHaveNoBytes(t *testing.T) {
	for _, p := range badPackets() {
		if b := impl.PacketBytes(p); len(b) != 0 {
			t.Fatal(p, b)
		}
	}
}

func TestP13ATurnedBitOfTheHeadIsNoticed(t *testing.T) {
	for _, p := range samplePackets() {
		b := impl.PacketBytes(p)
		for i := 0; i < impl.PacketHead; i++ {
			for bit := 0; bit < 8; bit++ {
				isNoPacket(t, bitTurned(b, i, bit))
			}
		}
	}
}

func TestP13TheSumIsOfTheHeadAlone(t *testing.T) {
	for _, p := range samplePackets() {
		b := impl.PacketBytes(p)
		for i := range p.Data {
			other := packetCopied(p)
			other.Data[i] ^= 16
			packetIsRead(t, bitTurned(b, impl.PacketHead+i, 4), other)
		}
	}
}

func TestP13AByteLessOrMoreIsNoPacket(t *testing.T) {
	for _, p := range samplePackets() {
		b := impl.PacketBytes(p)
		for n := 0; n < len(b); n++ {
			isNoPacket(t, b[:n])
		}
		for x := 0; x <= 255; x++ {
			isNoPacket(t, joined(b, []byte{byte(x)}))
		}
		isNoPacket(t, joined(b, b))
		isNoPacket(t, joined(b, filledBytes(0, 256)))
		isNoPacket(t, joined(b, filledBytes(0, 100000)))
	}
}

func TestP13FewerBytesThanAHead(t *testing.T) {
	isNoPacket(t, nil)
	for n := 0; n < impl.PacketHead; n++ {
		for x := 0; x <= 255; x++ {
			isNoPacket(t, filledBytes(byte(x), n))
		}
	}
}

func TestP13CountsThatDoNotFit(t *testing.T) {
	for many := 0; many <= impl.MaxPacket; many++ {
		data := mixedBytes(many, many)
		for count := 0; count <= 255; count++ {
			b := headed([]byte{0, 1, 0, 2, 6, 3, 9, 0, 0, byte(count)}, data)
			if count == many {
				packetIsRead(t, b, impl.Packet{From: 1, To: 2, Proto: 6, Hops: 3, Id: 9, Data: data})
			} else {
				isNoPacket(t, b)
			}
		}
	}
}

func TestP13TooManyBytesAreNoPacket(t *testing.T) {
	for many := 49; many <= 520; many++ {
		isNoPacket(t, headed([]byte{0, 1, 0, 2, 6, 3, 9, 0, 0, byte(many)}, mixedBytes(many, many)))
		isNoPacket(t, headed([]byte{0, 1, 0, 2, 6, 3, 9, 0, 0, 48}, mixedBytes(many, many)))
	}
}

func TestP13MarksThatAreNone(t *testing.T) {
	for marks := 0; marks <= 255; marks++ {
		for _, at := range byteEdges() {
			for _, data := range [][]byte{nil, {7}, mixedBytes(2, 48)} {
				b := headed([]byte{0, 1, 0, 2, 6, 3, 9, byte(at), byte(marks), byte(len(data))}, data)
				p := impl.Packet{From: 1, To: 2, Proto: 6, Hops: 3, Id: 9, At: at, More: marks == 1, Whole: marks == 2, Data: data}
				if marks == 0 || marks == 1 && len(data) > 0 || marks == 2 && at == 0 {
					packetIsRead(t, b, p)
				} else {
					isNoPacket(t, b)
				}
			}
		}
	}
}

func TestP13JustTheSumsThatFit(t *testing.T) {
	for _, p := range samplePackets()[:24] {
		b := impl.PacketBytes(p)
		own := plainSum(headOf(p))
		for sum := 0; sum <= 65535; sum++ {
			fits := sum == own || sum%65535 == 0 && own%65535 == 0
			if got, ok := impl.PacketFrom(withSum(b, sum)); ok != fits || ok && !samePacket(got, p) {
				t.Fatal(p, sum, own, got, ok)
			}
		}
	}
}

func TestP13BothSumsOfNothingFit(t *testing.T) {
	packetIsRead(t, []byte{0, 0, 0, 0, 0, 0, 0, 0, 0, 0, 255, 255}, impl.Packet{})
	packetIsRead(t, filledBytes(0, 12), impl.Packet{})
	packetIsRead(t, []byte{255, 255, 0, 0, 0, 0, 0, 0, 0, 0, 0, 0}, impl.Packet{From: 65535})
	packetIsRead(t, []byte{255, 255, 0, 0, 0, 0, 0, 0, 0, 0, 255, 255}, impl.Packet{From: 65535})
}

func TestP13WhatIsReadIsOk(t *testing.T) {
	read := 0
	for seed := 0; seed < 20000; seed++ {
		x := mixedBytes(seed, 12)
		data := mixedBytes(seed+7, int(x[10])%50)
		told := x[:10]
		told[7] = told[7] % 3
		told[8] = told[8] % 5
		told[9] = byte(len(data))
		b := headed(told, data)
		p, ok := impl.PacketFrom(b)
		if !ok {
			isNoPacket(t, b)
			continue
		}
		read++
		packetOkIs(t, p, true)
		packetBytesAre(t, p, b)
	}
	if read < 1000 {
		t.Fatal("too few packets were read", read)
	}
}

func TestP13BytesInNoOrderAreRead(t *testing.T) {
	for seed := 0; seed < 20000; seed++ {
		b := mixedBytes(seed, seed%70)
		if p, ok := impl.PacketFrom(b); ok {
			packetOkIs(t, p, true)
		} else {
			isNoPacket(t, b)
		}
	}
}

func TestP14KnownPacketsThatPass(t *testing.T) {
	b := []byte{0, 1, 1, 2, 6, 2, 9, 0, 0, 3, 239, 247, 'a', 'b', 'c'}
	c := []byte{0, 1, 1, 2, 6, 1, 9, 0, 0, 3, 239, 248, 'a', 'b', 'c'}
	passedIs(t, b, c)
	passesNothing(t, c)
	passedIs(t, []byte{1, 2, 3, 4, 1, 64, 5, 0, 2, 0, 243, 185}, []byte{1, 2, 3, 4, 1, 63, 5, 0, 2, 0, 243, 186})
	passedIs(t, []byte{0, 0, 1, 0, 2, 255, 0, 255, 0, 1, 251, 0, 0}, []byte{0, 0, 1, 0, 2, 254, 0, 255, 0, 1, 251, 1, 0})
	// The low byte of the sum carries.
	passedIs(t, []byte{254, 253, 0, 0, 0, 3, 0, 0, 0, 0, 0, 255}, []byte{254, 253, 0, 0, 0, 2, 0, 0, 0, 0, 1, 0})
}

func TestP14SumsAtTheEndsAreTurned(t *testing.T) {
	// Of 65535 and 0, which both fit, the sum that is turned is 65535, where SumOf is 0.
	passedIs(t, []byte{255, 254, 0, 0, 0, 2, 0, 0, 0, 0, 255, 254}, []byte{255, 254, 0, 0, 0, 1, 0, 0, 0, 0, 255, 255})
	// From either one of these it becomes 1.
	passedIs(t, []byte{255, 253, 0, 0, 0, 2, 0, 0, 0, 0, 0, 0}, []byte{255, 253, 0, 0, 0, 1, 0, 0, 0, 0, 0, 1})
	passedIs(t, []byte{255, 253, 0, 0, 0, 2, 0, 0, 0, 0, 255, 255}, []byte{255, 253, 0, 0, 0, 1, 0, 0, 0, 0, 0, 1})
}

// passedAsDefined returns the bytes of a packet, with at least 2 as Hops, that passed a station, by the definition.
func passedAsDefined(b []byte) []byte {
	pair := 256*int(b[4]) + int(b[5])
	sum := 256*int(b[10]) + int(b[11]) + pair + 65535 - (pair - 1)
	for sum > 65535 {
		sum -= 65535
	}
	out := withSum(b, sum)
	out[5]--
	return out
}

func TestP14AllButHopsStaysAsItIs(t *testing.T) {
	for _, p := range samplePackets() {
		for _, proto := range byteEdges() {
			for hops := 0; hops <= 255; hops++ {
				p.Proto = proto
				p.Hops = hops
				passesOnce(t, p)
			}
		}
	}
}

// passesOnce fails unless a packet that passes a station is the same, with Hops one less, and none if Hops is 0 or 1.
func passesOnce(t *testing.T, p impl.Packet) {
	t.Helper()
	b := impl.PacketBytes(p)
	if p.Hops <= 1 {
		passesNothing(t, b)
		return
	}
	want := passedAsDefined(b)
	passedIs(t, b, want)
	p.Hops--
	packetIsRead(t, want, p)
}

func TestP14AfterAsManyStationsNoneIsLeft(t *testing.T) {
	for _, p := range samplePackets() {
		hops := p.Hops
		b := impl.PacketBytes(p)
		for i := 1; i < hops; i++ {
			next, ok := impl.PacketPassed(b)
			if !ok {
				t.Fatal(p, i, b)
			}
			b = next
			p.Hops = hops - i
			packetIsRead(t, b, p)
		}
		passesNothing(t, b)
	}
}

func TestP14TheLastStation(t *testing.T) {
	for _, p := range samplePackets() {
		for _, hops := range []int{0, 1} {
			p.Hops = hops
			passesNothing(t, impl.PacketBytes(p))
		}
		p.Hops = 2
		b, ok := impl.PacketPassed(impl.PacketBytes(p))
		p.Hops = 1
		if !ok {
			t.Fatal(p)
		}
		packetIsRead(t, b, p)
		passesNothing(t, b)
	}
}

func TestP14ProtoIsNotTouched(t *testing.T) {
	// With Hops 0 the pair would take its one from Proto.
	passesNothing(t, headed([]byte{0, 1, 0, 2, 6, 0, 9, 0, 0, 0}, nil))
	passesNothing(t, headed([]byte{0, 1, 0, 2, 255, 0, 9, 0, 0, 1}, []byte{7}))
	passedIs(t, headed([]byte{0, 1, 0, 2, 255, 255, 9, 0, 0, 0}, nil), headed([]byte{0, 1, 0, 2, 255, 254, 9, 0, 0, 0}, nil))
}

func TestP14WhatIsNoPacketPassesNothing(t *testing.T) {
	for _, p := range samplePackets() {
		p.Hops = 3
		b := impl.PacketBytes(p)
		passesNothing(t, b[:len(b)-1])
		passesNothing(t, joined(b, []byte{0}))
		for i := 0; i < impl.PacketHead; i++ {
			passesNothing(t, bitTurned(b, i, i%8))
		}
	}
	// Their sums are right, and they are none for another reason.
	passesNothing(t, headed([]byte{0, 1, 0, 2, 6, 3, 9, 0, 1, 0}, nil))
	passesNothing(t, headed([]byte{0, 1, 0, 2, 6, 3, 9, 0, 3, 1}, []byte{7}))
	passesNothing(t, headed([]byte{0, 1, 0, 2, 6, 3, 9, 0, 4, 1}, []byte{7}))
	passesNothing(t, headed([]byte{0, 1, 0, 2, 6, 3, 9, 1, 2, 1}, []byte{7}))
	passesNothing(t, headed([]byte{0, 1, 0, 2, 6, 3, 9, 0, 0, 49}, mixedBytes(1, 49)))
	passesNothing(t, nil)
}

func TestP102PacketsInRangeAreOk(t *testing.T) {
	for _, p := range samplePackets() {
		packetOkIs(t, p, true)
	}
	for v := -3; v <= 300; v++ {
		byteRange := v >= 0 && v <= 255
		packetOkIs(t, impl.Packet{Proto: v}, byteRange)
		packetOkIs(t, impl.Packet{Hops: v}, byteRange)
		packetOkIs(t, impl.Packet{Id: v}, byteRange)
		packetOkIs(t, impl.Packet{At: v}, byteRange)
		packetOkIs(t, impl.Packet{At: v, More: true, Data: []byte{1}}, byteRange)
	}
	for n := 0; n <= 300; n++ {
		packetOkIs(t, impl.Packet{Data: filledBytes(0, n)}, n <= 48)
		packetOkIs(t, impl.Packet{Data: filledBytes(0, n), Whole: true}, n <= 48)
		packetOkIs(t, impl.Packet{Data: filledBytes(0, n), More: true}, n >= 1 && n <= 48)
		// Where the bytes end does not matter, also beyond the last place.
		packetOkIs(t, impl.Packet{Data: filledBytes(0, n), At: 255}, n <= 48)
	}
}

func TestP102AddressesInRangeAreOk(t *testing.T) {
	for _, v := range addrEdges() {
		for _, w := range addrEdges() {
			packetOkIs(t, impl.Packet{From: v, To: w}, true)
		}
		for _, w := range noAddrs() {
			packetOkIs(t, impl.Packet{From: v, To: w}, false)
			packetOkIs(t, impl.Packet{From: w, To: v}, false)
		}
	}
}

func TestP102TheLastPieceMayBeEmpty(t *testing.T) {
	for _, p := range samplePackets() {
		for n := 0; n <= len(p.Data); n++ {
			less := p
			less.Data = p.Data[:n]
			packetOkIs(t, less, n > 0 || !p.More)
			less.More = false
			packetOkIs(t, less, true)
		}
	}
	for _, at := range byteEdges() {
		packetOkIs(t, impl.Packet{At: at}, true)
		packetOkIs(t, impl.Packet{At: at, Data: []byte{}}, true)
		packetOkIs(t, impl.Packet{At: at, More: true}, false)
		packetOkIs(t, impl.Packet{At: at, More: true, Data: []byte{}}, false)
		packetOkIs(t, impl.Packet{At: at, More: true, Data: []byte{0}}, true)
	}
}

func TestP102WhatMayNotBeCutIsWhole(t *testing.T) {
	for _, data := range [][]byte{nil, {7}, mixedBytes(1, 48)} {
		for at := 0; at <= 255; at++ {
			packetOkIs(t, impl.Packet{At: at, Data: data}, true)
			packetOkIs(t, impl.Packet{At: at, Data: data, More: true}, len(data) > 0)
			packetOkIs(t, impl.Packet{At: at, Data: data, Whole: true}, at == 0)
			packetOkIs(t, impl.Packet{At: at, Data: data, More: true, Whole: true}, false)
		}
	}
}

func TestP102NoPacketComesFromNowhere(t *testing.T) {
	for _, p := range samplePackets() {
		for _, v := range noAddrs() {
			none := p
			none.From = v
			packetOkIs(t, none, false)
			none.Data = nil
			none.More = false
			packetOkIs(t, none, false)
			none = p
			none.To = v
			packetOkIs(t, none, false)
		}
	}
}

func TestP102InvalidPacketsAreNotOk(t *testing.T) {
	for _, p := range badPackets() {
		packetOkIs(t, p, false)
	}
	// One thing out of range is enough, whatever the packet is otherwise.
	for _, p := range samplePackets() {
		for _, v := range noBytes() {
			none := p
			none.Proto = v
			packetOkIs(t, none, false)
			none = p
			none.Hops = v
			packetOkIs(t, none, false)
			none = p
			none.Id = v
			packetOkIs(t, none, false)
			none = p
			none.At = v
			packetOkIs(t, none, false)
		}
	}
}

func TestChapter4WritesNoArguments(t *testing.T) {
	for _, p := range samplePackets() {
		given := packetCopied(p)
		impl.PacketOk(given)
		room := joined(impl.PacketBytes(given), filledBytes(9, 80))
		if !sameBytes(given.Data[:len(p.Data)+80], joined(p.Data, filledBytes(9, 80))) {
			t.Fatal(p, given.Data)
		}
		was := copied(room)
		b := room[:len(room)-80]
		impl.PacketFrom(b)
		impl.PacketPassed(b)
		if !sameBytes(room, was) {
			t.Fatal(was, room)
		}
	}
}

func TestChapter4BytesOfPacketsAreNewMemory(t *testing.T) {
	for _, p := range samplePackets() {
		given := packetCopied(p)
		b := impl.PacketBytes(given)
		want := copied(b)
		bytesSpoiled(given.Data)
		if !sameBytes(b, want) {
			t.Fatal("the bytes have memory of the packet", p, b)
		}
		given = packetCopied(p)
		b = impl.PacketBytes(given)
		bytesSpoiled(b)
		if !sameBytes(given.Data[:len(p.Data)+80], joined(p.Data, filledBytes(9, 80))) || !sameBytes(impl.PacketBytes(given), want) {
			t.Fatal("the packet has memory of the bytes", p, given)
		}
	}
}

func TestChapter4PacketsThatAreReadAreNewMemory(t *testing.T) {
	for _, p := range samplePackets() {
		want := impl.PacketBytes(p)
		room := joined(want, filledBytes(9, 80))
		got, _ := impl.PacketFrom(room[:len(want)])
		bytesSpoiled(room[:len(want)])
		if !samePacket(got, p) {
			t.Fatal("the packet has memory of the bytes", p, got)
		}
		room = joined(want, filledBytes(9, 80))
		got, _ = impl.PacketFrom(room[:len(want)])
		bytesSpoiled(got.Data)
		if !sameBytes(room, joined(want, filledBytes(9, 80))) {
			t.Fatal("the bytes have memory of the packet", p, room)
		}
	}
}

func TestChapter4BytesThatPassedAreNewMemory(t *testing.T) {
	for _, p := range samplePackets() {
		p.Hops = 64
		b := impl.PacketBytes(p)
		want := passedAsDefined(b)
		room := joined(b, filledBytes(9, 80))
		out, _ := impl.PacketPassed(room[:len(b)])
		bytesSpoiled(room[:len(b)])
		if !sameBytes(out, want) {
			t.Fatal("what passed has memory of what was sent", p, out)
		}
		room = joined(b, filledBytes(9, 80))
		out, _ = impl.PacketPassed(room[:len(b)])
		bytesSpoiled(out)
		if !sameBytes(room, joined(b, filledBytes(9, 80))) {
			t.Fatal("what was sent has memory of what passed", p, room)
		}
	}
}
