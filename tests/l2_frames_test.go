package tests

import (
	"testing"

	"loop.example/netstack/impl"
)

// sampleFrames returns frames of all lengths, to one station, to all and to the one that sends, and such whose sums are 0 or 65535.
func sampleFrames() []impl.Frame {
	out := []impl.Frame{
		{},
		{To: 2, From: 1, Kind: 3, Data: []byte("hi")},
		{To: 5, From: 5, Kind: 255},
		{To: 254, From: 254, Kind: 255, Data: filledBytes(255, impl.MaxFrame)},
		{To: impl.LinkAll, From: 254, Kind: 255, Data: []byte{0}},
		{To: impl.LinkAll, From: 0, Kind: 0},
		{Data: filledBytes(0, impl.MaxFrame)},
		{Data: []byte{255, 253}},
	}
	for n := 0; n <= impl.MaxFrame; n++ {
		out = append(out, impl.Frame{To: (n * 37) % 256, From: (n * 53) % 255, Kind: (n * 71) % 256, Data: mixedBytes(n, n)})
	}
	return out
}

// badFrames returns frames that are none: one thing is out of range, or several are.
func badFrames() []impl.Frame {
	out := []impl.Frame{
		{To: -1, From: -1, Kind: -1},
		{To: 256, From: 255, Kind: 256, Data: mixedBytes(1, 65)},
	}
	for _, v := range []int{least, -256, -255, -1, 256, 257, 511, 512, greatest} {
		out = append(out, impl.Frame{To: v, From: 1, Kind: 3, Data: []byte("hi")})
		out = append(out, impl.Frame{To: 2, From: v, Kind: 3})
		out = append(out, impl.Frame{To: impl.LinkAll, From: v, Kind: 3, Data: []byte("hi")})
		out = append(out, impl.Frame{To: 2, From: 1, Kind: v})
	}
	for _, to := range []int{0, 2, impl.LinkAll} {
		out = append(out, impl.Frame{To: to, From: impl.LinkAll, Kind: 3})
		out = append(out, impl.Frame{To: to, From: impl.LinkAll, Kind: 3, Data: []byte("hi")})
	}
	for _, n := range []int{65, 66, 128, 255, 256, 257, 300, 65536} {
		out = append(out, impl.Frame{To: 2, From: 1, Kind: 3, Data: mixedBytes(n, n)})
	}
	return out
}

// sameFrame reports whether two frames are the same.
func sameFrame(a impl.Frame, b impl.Frame) bool {
	return a.To == b.To && a.From == b.From && a.Kind == b.Kind && sameBytes(a.Data, b.Data)
}

// summed returns bytes with their sum behind them, by its definition.
func summed(b []byte) []byte {
	sum := plainSum(b)
	return joined(b, []byte{byte(sum / 256), byte(sum % 256)})
}

// countedBytes returns bytes with a right sum that tell that a frame of station 1 to 2 carries as many as told, and carry these.
func countedBytes(count int, data []byte) []byte {
	return summed(joined([]byte{2, 1, 3, byte(count)}, data))
}

// isNoFrame fails if bytes are a frame, or if what stands beside false is not nothing.
func isNoFrame(t *testing.T, b []byte) {
	t.Helper()
	f, ok := impl.FrameFrom(b)
	if ok || !sameFrame(f, impl.Frame{}) {
		t.Fatal(b, f, ok)
	}
}

// frameIsRead fails unless bytes are the frame.
func frameIsRead(t *testing.T, b []byte, want impl.Frame) {
	t.Helper()
	f, ok := impl.FrameFrom(b)
	if !ok || !sameFrame(f, want) {
		t.Fatal(b, f, ok, want)
	}
}

func TestP6KnownFramesAsBytes(t *testing.T) {
	frameBytesAre(t, impl.Frame{To: 2, From: 1, Kind: 3, Data: []byte("hi")}, []byte{2, 1, 3, 2, 'h', 'i', 146, 147})
	frameBytesAre(t, impl.Frame{}, []byte{0, 0, 0, 0, 255, 255})
	frameBytesAre(t, impl.Frame{To: 255, From: 254, Kind: 253}, []byte{255, 254, 253, 0, 3, 0})
	frameBytesAre(t, impl.Frame{To: 5, From: 5, Kind: 9, Data: []byte{1}}, []byte{5, 5, 9, 1, 1, 240, 249})
	frameBytesAre(t, impl.Frame{To: 255, From: 254, Kind: 0, Data: []byte{255}}, []byte{255, 254, 0, 1, 255, 0, 255})
	frameBytesAre(t, impl.Frame{Data: []byte{255, 253}}, []byte{0, 0, 0, 2, 255, 253, 0, 0})
}

// frameBytesAre fails unless a frame has the bytes want, and these are it.
func frameBytesAre(t *testing.T, f impl.Frame, want []byte) {
	t.Helper()
	if got := impl.FrameBytes(f); !sameBytes(got, want) {
		t.Fatal(f, got, want)
	}
	frameIsRead(t, want, f)
}

func TestP6FramesAreAsDefined(t *testing.T) {
	for _, f := range sampleFrames() {
		head := []byte{byte(f.To), byte(f.From), byte(f.Kind), byte(len(f.Data))}
		frameBytesAre(t, f, summed(joined(head, f.Data)))
	}
}

func TestP6FramesCanBeReadBack(t *testing.T) {
	for _, f := range sampleFrames() {
		frameIsRead(t, impl.FrameBytes(f), f)
	}
	for v := 0; v <= 255; v++ {
		f := impl.Frame{To: v, From: v % 255, Kind: 255 - v, Data: []byte{byte(v)}}
		frameIsRead(t, impl.FrameBytes(f), f)
	}
}

func TestP6ATurnedBitIsNoticedInAFrame(t *testing.T) {
	for _, f := range sampleFrames() {
		b := impl.FrameBytes(f)
		for i := range b {
			for bit := 0; bit < 8; bit++ {
				isNoFrame(t, bitTurned(b, i, bit))
			}
		}
	}
}

func TestP6InvalidFramesHaveNoBytes(t *testing.T) {
	for _, f := range badFrames() {
		if b := impl.FrameBytes(f); len(b) != 0 {
			t.Fatal(f, b)
		}
	}
}

func TestP7WhatIsReadWasSent(t *testing.T) {
	for seed := 0; seed < 3000; seed++ {
		b := mixedBytes(seed, seed%80)
		wasSent(t, b)
		wasSent(t, summed(b))
		if len(b) >= 4 {
			b[3] = byte(len(b) - 4)
			wasSent(t, b)
			wasSent(t, summed(b))
		}
	}
	for _, f := range sampleFrames() {
		wasSent(t, impl.FrameBytes(f))
	}
}

// wasSent fails unless bytes are those of the frame that is read from them, or none is.
func wasSent(t *testing.T, b []byte) {
	t.Helper()
	f, ok := impl.FrameFrom(b)
	if !ok {
		isNoFrame(t, b)
		return
	}
	if !impl.FrameOk(f) || !sameBytes(impl.FrameBytes(f), b) {
		t.Fatal(b, f)
	}
}

func TestP7JustOneSumIsRight(t *testing.T) {
	for _, f := range sampleFrames()[:16] {
		b := impl.FrameBytes(f)
		own := plainSum(b[:len(b)-2])
		for sum := 0; sum <= 65535; sum++ {
			b[len(b)-2] = byte(sum / 256)
			b[len(b)-1] = byte(sum % 256)
			if _, ok := impl.FrameFrom(b); ok != (sum == own) {
				t.Fatal(f, sum, own, ok)
			}
		}
	}
}

func TestP7AByteLessOrMoreIsNoFrame(t *testing.T) {
	for _, f := range sampleFrames() {
		b := impl.FrameBytes(f)
		for n := 0; n < len(b); n++ {
			isNoFrame(t, b[:n])
			isNoFrame(t, b[len(b)-n:])
			isNoFrame(t, joined(b[:n], b[n+1:]))
		}
		for x := 0; x <= 255; x++ {
			isNoFrame(t, joined(b, []byte{byte(x)}))
			isNoFrame(t, joined([]byte{byte(x)}, b))
		}
	}
}

func TestP7BytesBehindAFrame(t *testing.T) {
	for _, f := range sampleFrames() {
		b := impl.FrameBytes(f)
		isNoFrame(t, joined(b, []byte{0, 0}))
		isNoFrame(t, joined(b, []byte{255, 255}))
		isNoFrame(t, joined(b, b))
		isNoFrame(t, summed(b))
		isNoFrame(t, joined(b, filledBytes(0, 100000)))
	}
}

func TestP7CountsThatDoNotFit(t *testing.T) {
	for _, data := range [][]byte{nil, {7}, {7, 8}, {0, 0}, mixedBytes(3, 40), mixedBytes(4, 63), mixedBytes(5, 64)} {
		for count := 0; count <= 255; count++ {
			b := countedBytes(count, data)
			if count == len(data) {
				frameIsRead(t, b, impl.Frame{To: 2, From: 1, Kind: 3, Data: data})
			} else {
				isNoFrame(t, b)
			}
		}
	}
}

func TestP7TooManyBytesAreNoFrame(t *testing.T) {
	for n := 65; n <= 520; n++ {
		isNoFrame(t, countedBytes(n, mixedBytes(n, n)))
	}
}

func TestP7NobodySendsAsAll(t *testing.T) {
	for _, to := range []byte{0, 2, 254, 255} {
		isNoFrame(t, summed([]byte{to, 255, 3, 0}))
		isNoFrame(t, summed([]byte{to, 255, 3, 2, 'h', 'i'}))
		frameIsRead(t, summed([]byte{to, 254, 3, 0}), impl.Frame{To: int(to), From: 254, Kind: 3})
	}
}

func TestP7TooFewBytesAreNoFrame(t *testing.T) {
	isNoFrame(t, nil)
	for n := 0; n <= 5; n++ {
		for x := 0; x <= 255; x++ {
			isNoFrame(t, filledBytes(byte(x), n))
		}
	}
}

func TestP96FramesInRangeAreOk(t *testing.T) {
	for _, f := range sampleFrames() {
		frameOkIs(t, f, true)
	}
	for v := -3; v <= 300; v++ {
		frameOkIs(t, impl.Frame{To: v, From: 1, Kind: 3}, v >= 0 && v <= 255)
		frameOkIs(t, impl.Frame{To: 2, From: v, Kind: 3}, v >= 0 && v <= 254)
		frameOkIs(t, impl.Frame{To: 2, From: 1, Kind: v}, v >= 0 && v <= 255)
	}
	for n := 0; n <= 300; n++ {
		frameOkIs(t, impl.Frame{To: 2, From: 1, Kind: 3, Data: filledBytes(0, n)}, n <= 64)
	}
}

// frameOkIs fails unless FrameOk tells what is wanted of a frame.
func frameOkIs(t *testing.T, f impl.Frame, want bool) {
	t.Helper()
	if got := impl.FrameOk(f); got != want {
		t.Fatal(f, got)
	}
}

func TestP96AFrameWithoutBytesIsAFrame(t *testing.T) {
	for _, f := range sampleFrames() {
		f.Data = nil
		frameOkIs(t, f, true)
		f.Data = []byte{}
		frameOkIs(t, f, true)
		frameIsRead(t, impl.FrameBytes(f), f)
	}
}

func TestP96InvalidFramesAreNotOk(t *testing.T) {
	for _, f := range badFrames() {
		frameOkIs(t, f, false)
	}
}

func TestP96NoFrameComesFromAll(t *testing.T) {
	for _, f := range sampleFrames() {
		f.From = impl.LinkAll
		frameOkIs(t, f, false)
		f.Data = nil
		frameOkIs(t, f, false)
	}
}

func TestP97KnownFramesForStations(t *testing.T) {
	one := impl.Frame{To: 2, From: 1, Kind: 3, Data: []byte("hi")}
	all := impl.Frame{To: impl.LinkAll, From: 1}
	self := impl.Frame{To: 5, From: 5}
	frameForIs(t, one, 2, true)
	frameForIs(t, one, 1, false)
	frameForIs(t, one, 3, false)
	frameForIs(t, all, 0, true)
	frameForIs(t, all, 254, true)
	frameForIs(t, all, 1, false)
	frameForIs(t, self, 5, true)
	frameForIs(t, self, 4, false)
}

// frameForIs fails unless FrameFor tells what is wanted of a frame and a station.
func frameForIs(t *testing.T, f impl.Frame, link int, want bool) {
	t.Helper()
	if got := impl.FrameFor(f, link); got != want {
		t.Fatal(f, link, got)
	}
}

func TestP97AFrameToOneIsForOne(t *testing.T) {
	for to := 0; to < impl.LinkAll; to++ {
		for _, from := range []int{0, 1, 127, 254, to} {
			for link := 0; link < impl.LinkAll; link++ {
				frameForIs(t, impl.Frame{To: to, From: from, Kind: 3}, link, link == to)
			}
		}
	}
}

func TestP97AFrameToAllIsForEachOther(t *testing.T) {
	for from := 0; from < impl.LinkAll; from++ {
		for link := 0; link < impl.LinkAll; link++ {
			frameForIs(t, impl.Frame{To: impl.LinkAll, From: from, Data: []byte{1}}, link, link != from)
		}
	}
}

func TestP97NobodyElseIsAStation(t *testing.T) {
	for _, link := range []int{least, -256, -1, 255, 256, 257, 511, greatest} {
		for _, f := range sampleFrames() {
			frameForIs(t, f, link, false)
		}
		// A frame that would go to just that number is none at all, but for LinkAll, which is nobody.
		frameForIs(t, impl.Frame{To: link, From: 1}, link, false)
	}
}

func TestP97InvalidFramesAreForNobody(t *testing.T) {
	for _, f := range badFrames() {
		for link := -1; link <= 256; link++ {
			frameForIs(t, f, link, false)
		}
	}
}

func TestChapter2WritesNoArguments(t *testing.T) {
	for _, f := range sampleFrames() {
		// The room behind the bytes is filled, so that what is appended there would be seen.
		room := joined(f.Data, filledBytes(9, 80))
		was := copied(room)
		f.Data = room[:len(f.Data)]
		impl.FrameOk(f)
		b := impl.FrameBytes(f)
		impl.FrameFor(f, 1)
		if !sameBytes(room, was) {
			t.Fatal(f, room)
		}
		sent := copied(b)
		impl.FrameFrom(b)
		if !sameBytes(b, sent) {
			t.Fatal(sent, b)
		}
	}
}

func TestChapter2AnswersAreNewMemory(t *testing.T) {
	for _, f := range sampleFrames() {
		data := copied(f.Data)
		b := impl.FrameBytes(f)
		sent := copied(b)
		got, _ := impl.FrameFrom(b)
		for i := range b {
			b[i] ^= 255
		}
		if !sameBytes(f.Data, data) || !sameBytes(got.Data, data) || !sameBytes(impl.FrameBytes(f), sent) {
			t.Fatal("the bytes of a frame share memory", f, got)
		}
		again, _ := impl.FrameFrom(sent)
		got, _ = impl.FrameFrom(sent)
		got.Data = append(got.Data, 7, 7)
		for i := range got.Data {
			got.Data[i] = 7
		}
		if !sameBytes(again.Data, data) || !sameBytes(sent, impl.FrameBytes(f)) {
			t.Fatal("frames that are read share memory", f, again)
		}
	}
}
