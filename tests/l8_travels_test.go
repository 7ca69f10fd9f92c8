package tests

import (
	"testing"

	"loop.example/netstack/impl"
)

// noStations returns numbers of stations that a net of at most MaxStations does not have.
func noStations() []int {
	return []int{least, -65536, -256, -5, -2, -1, 5, 6, 255, 256, 65536, greatest}
}

// wayVia and wayTo return routes for all addresses, and for one alone, to a station, with room for so many bytes.
func wayVia(via int, room int) impl.Route {
	return impl.Route{Via: via, Room: room}
}

func wayTo(addr int, via int, room int) impl.Route {
	return impl.Route{Addr: addr, Bits: 16, Via: via, Room: room}
}

// stationOf returns a station with routes.
func stationOf(addr int, routes ...impl.Route) impl.Station {
	return impl.Station{Addr: addr, Routes: routes}
}

// lineOf returns a net of the stations 10, 11 and so on, one more than there are rooms: from each to the next one go as many bytes as its room tells, and back as many as back tells. From the last one there is just the way back.
func lineOf(back int, rooms ...int) []impl.Station {
	net := []impl.Station{}
	for i := 0; i <= len(rooms); i++ {
		s := stationOf(10 + i)
		if i < len(rooms) {
			s.Routes = append(s.Routes, wayVia(11+i, rooms[i]))
		}
		for addr := 10; addr < 10+i; addr++ {
			s.Routes = append(s.Routes, wayTo(addr, 9+i, back))
		}
		net = append(net, s)
	}
	return net
}

// circleOf returns a net of the stations 10, 11 and so on, each of which leads to the next one, and the last one to the station 10 + to.
func circleOf(many int, to int, room int) []impl.Station {
	net := []impl.Station{}
	for i := 0; i < many; i++ {
		next := 11 + i
		if i == many-1 {
			next = 10 + to
		}
		net = append(net, stationOf(10+i, wayVia(next, room)))
	}
	return net
}

// knownNets returns nets of all sizes: without ways, lines that become narrower and wider, circles, also of one station, and ways to stations that are not there.
func knownNets() [][]impl.Station {
	out := [][]impl.Station{
		{stationOf(10)},
		{stationOf(0, wayVia(65535, 48)), stationOf(65535, wayVia(0, 1))},
		{stationOf(10, wayVia(99, 20))},
		{stationOf(10, wayVia(11, 20)), stationOf(11, wayVia(99, 3))},
		{stationOf(11), stationOf(10, wayVia(11, 7)), stationOf(65535)},
		lineOf(48),
		lineOf(40, 4),
		lineOf(1, 48, 20, 7),
		lineOf(5, 7, 20, 48, 47),
		lineOf(48, 20, 6, 30, 4),
		lineOf(3, 1, 48, 1, 48),
		lineOf(20, 48, 48, 48, 48),
	}
	for many := 1; many <= 5; many++ {
		for to := 0; to < many; to++ {
			out = append(out, circleOf(many, to, 20+many), circleOf(many, to, 3))
		}
	}
	return out
}

// mixedNet returns a net in which many addresses are on a way, and some in circles or nowhere, the same one for the same seed.
func mixedNet(seed int) []impl.Station {
	addrs := []int{0, 10, 11, 12, 65535}
	rooms := []int{1, 3, 4, 7, 20, 47, 48, 48}
	net := []impl.Station{}
	for i, at := range mixedOrder(seed, 5)[:seed%6] {
		s := stationOf(addrs[at])
		x := mixedBytes(7*seed+i, 20)
		for k := 0; k < int(x[0])%5; k++ {
			via := append(addrs, 99)[int(x[4*k+1])%6]
			r := impl.Route{Via: via, Room: rooms[int(x[4*k+2])%8]}
			if k > 0 {
				r.Bits = []int{1, 12, 16, 16}[int(x[4*k+3])%4]
				addr := addrs[int(x[4*k+4])%5]
				r.Addr = addr - addr%spanOf(r.Bits)
			}
			s.Routes = putRoute(s.Routes, r)
		}
		net = append(net, s)
	}
	return net
}

// sampleNets returns the nets that are known, and mixed ones.
func sampleNets() [][]impl.Station {
	out := append([][]impl.Station{nil, {}}, knownNets()...)
	for seed := 0; seed < 400; seed++ {
		out = append(out, mixedNet(seed))
	}
	return out
}

// goals returns the addresses of all stations of a net, and some that no station has.
func goals(net []impl.Station) []int {
	out := []int{1, 99, 32768}
	for _, s := range net {
		out = append(out, s.Addr)
	}
	return out
}

// travellers returns packets to an address: of some lengths, which may be cut or not, that may pass few stations or many, pieces, also at the greatest place, notes and faults.
func travellers(to int) []impl.Packet {
	out := []impl.Packet{}
	for i, many := range []int{0, 1, 3, 4, 5, 7, 8, 20, 21, 47, 48} {
		p := impl.Packet{From: 5, To: to, Proto: 6, Hops: 9, Id: i, Data: mixedBytes(i, many)}
		out = append(out, p, withHops(p, i%6))
		p.Whole = true
		out = append(out, p, withHops(p, i%4))
	}
	for i, at := range []int{0, 1, 30, 207, 240, 250, 255} {
		p := impl.Packet{From: 10, To: to, Proto: 2, Hops: 7, Id: 200 + i, At: at, More: true, Data: mixedBytes(at, 5+6*i)}
		out = append(out, p, withHops(p, i%5))
		p.More = false
		out = append(out, p)
	}
	for kind := 1; kind <= 6; kind++ {
		p := impl.Packet{From: 11, To: to, Proto: 1, Hops: kind, Data: noteAsBytes(impl.Note{Kind: kind, N: 300, Data: mixedBytes(kind, 12)})}
		out = append(out, p)
		p.Whole = true
		out = append(out, p)
	}
	return out
}

// badStations returns stations that are none: the address, or the routes, are not ok, or both.
func badStations() []impl.Station {
	out := []impl.Station{}
	for _, addr := range noAddrs() {
		out = append(out, stationOf(addr), stationOf(addr, wayVia(11, 20)), stationOf(addr, impl.Route{}))
	}
	for i, list := range badRouteLists() {
		out = append(out, stationOf(addrEdges()[i%11], list...))
	}
	return out
}

// badNets returns lists that are no nets: with a station that is none at any place, with two of one address, or with too many.
func badNets() [][]impl.Station {
	out := [][]impl.Station{lineOf(20, 9, 9, 9, 9, 9), lineOf(20, 9, 9, 9, 9, 9, 9)}
	for _, net := range [][]impl.Station{lineOf(20, 9), lineOf(20, 9, 9, 9, 9), circleOf(3, 0, 9)} {
		for i := range net {
			for k := range net {
				if i != k {
					twice := netCopied(net)
					twice[i].Addr = net[k].Addr
					out = append(out, twice)
				}
			}
		}
		out = append(out, append(netCopied(net), net[0]), append(netCopied(net), stationOf(net[len(net)-1].Addr)))
	}
	for i, s := range badStations() {
		out = append(out, []impl.Station{s})
		net := lineOf(20, 9, 9, 9, 9)
		net[i%5] = s
		out = append(out, net)
	}
	many := []impl.Station{}
	for i := 0; i < 300; i++ {
		many = append(many, stationOf(i))
	}
	return append(out, many, many[:6], many[:256])
}

// stationCopied and netCopied return the same ones in new memory, with room behind all lists that is filled, so that what is written there would be seen (netIsKept).
func stationCopied(s impl.Station) impl.Station {
	return impl.Station{Addr: s.Addr, Routes: routesCopied(s.Routes)}
}

func netCopied(net []impl.Station) []impl.Station {
	out := []impl.Station{}
	for _, s := range net {
		out = append(out, stationCopied(s))
	}
	return append(out, stationMark(), stationMark())[:len(net)]
}

// stationMark is what stands in the room behind the stations that are handed in.
func stationMark() impl.Station {
	return stationOf(99, routeMark())
}

// sameStation, sameDone and sameTrip report whether both are the same; none are the same as nil.
func sameStation(a impl.Station, b impl.Station) bool {
	return a.Addr == b.Addr && sameRoutes(a.Routes, b.Routes)
}

func sameDone(a impl.Done, b impl.Done) bool {
	return a.Kind == b.Kind && a.Via == b.Via && samePieces(a.Packets, b.Packets)
}

func sameTrip(a impl.Trip, b impl.Trip) bool {
	return a.Steps == b.Steps && samePieces(a.Arrived, b.Arrived) && samePieces(a.Notes, b.Notes)
}

// forwardAsDefined returns what becomes of a packet at a station by the definition.
func forwardAsDefined(s impl.Station, p impl.Packet) impl.Done {
	r, found := routeToAsDefined(s.Routes, p.To)
	if p.To == s.Addr {
		return impl.Done{Kind: impl.DoneHere, Packets: []impl.Packet{p}}
	} else if p.Hops < 2 {
		return notedAsDefined(s, p, impl.NoteLate, 0)
	} else if !found {
		return notedAsDefined(s, p, impl.NoteNoWay, 0)
	} else if p.Whole && len(p.Data) > r.Room {
		return notedAsDefined(s, p, impl.NoteLong, r.Room)
	}
	pieces, ok := cutAsDefined(withHops(p, p.Hops-1), r.Room)
	if !ok {
		return impl.Done{}
	}
	return impl.Done{Kind: impl.DoneOn, Via: r.Via, Packets: pieces}
}

// notedAsDefined returns what becomes of a packet about which a fault is to be told.
func notedAsDefined(s impl.Station, p impl.Packet, kind int, n int) impl.Done {
	if p.At > 0 || impl.NoteFault(p) {
		return impl.Done{}
	}
	return impl.Done{Kind: impl.DoneNote, Packets: []impl.Packet{noteFrom(s.Addr, p, noteAbout(p, kind, n))}}
}

// numberOf returns the number of the station of a net with an address, -1 if there is none.
func numberOf(net []impl.Station, addr int) int {
	for i, s := range net {
		if s.Addr == addr {
			return i
		}
	}
	return -1
}

// travelAsDefined returns what becomes of a packet in a net by the definition. Packets are at as many stations as those ahead of them, or one more, so all that are as far go on at once.
func travelAsDefined(net []impl.Station, from int, p impl.Packet) impl.Trip {
	trip := impl.Trip{}
	at, packets := []int{from}, []impl.Packet{p}
	for len(packets) > 0 {
		nextAt, next := []int{}, []impl.Packet{}
		for i, q := range packets {
			done := forwardAsDefined(net[at[i]], q)
			trip.Steps++
			if done.Kind == impl.DoneHere {
				trip.Arrived = append(trip.Arrived, q)
			} else if done.Kind == impl.DoneNote {
				trip.Notes = append(trip.Notes, done.Packets[0])
			} else if number := numberOf(net, done.Via); number >= 0 {
				for _, piece := range done.Packets {
					nextAt, next = append(nextAt, number), append(next, piece)
				}
			}
		}
		at, packets = nextAt, next
	}
	return trip
}

// wayAsDefined returns the routes on the way from a station of a net to an address, and whether there is a way. It is none if it passes one of the stations that it passed already.
func wayAsDefined(net []impl.Station, from int, to int, passed []int) ([]impl.Route, bool) {
	for _, at := range append([]int{-1}, passed...) {
		if at == from {
			return nil, false
		}
	}
	if net[from].Addr == to {
		return nil, true
	}
	r, found := routeToAsDefined(net[from].Routes, to)
	if !found {
		return nil, false
	}
	way, ok := wayAsDefined(net, numberOf(net, r.Via), to, append(append([]int{}, passed...), from))
	return append([]impl.Route{r}, way...), ok
}

// roomAsDefined returns the least room of the routes on the way, 0 if there is none.
func roomAsDefined(net []impl.Station, from int, to int) int {
	way, ok := wayAsDefined(net, from, to, nil)
	if !ok {
		return 0
	}
	room := 48
	for _, r := range way {
		if r.Room < room {
			room = r.Room
		}
	}
	return room
}

// forwardIs fails unless this becomes of a packet at a station.
func forwardIs(t *testing.T, s impl.Station, p impl.Packet, want impl.Done) {
	t.Helper()
	if got := impl.Forward(s, p); !sameDone(got, want) {
		t.Fatal(s, p, "got", got, "want", want)
	}
}

// goesOn, isNoted and isGone fail unless a packet goes on to a station in these pieces, a note of a kind with a number is told about it, or it is gone.
func goesOn(t *testing.T, s impl.Station, p impl.Packet, via int, pieces ...impl.Packet) {
	t.Helper()
	forwardIs(t, s, p, impl.Done{Kind: impl.DoneOn, Via: via, Packets: pieces})
}

func isNoted(t *testing.T, s impl.Station, p impl.Packet, kind int, n int) {
	t.Helper()
	told := noteFrom(s.Addr, p, noteAbout(p, kind, n))
	forwardIs(t, s, p, impl.Done{Kind: impl.DoneNote, Packets: []impl.Packet{told}})
}

func isGone(t *testing.T, s impl.Station, p impl.Packet) {
	t.Helper()
	forwardIs(t, s, p, impl.Done{})
}

// travelIs fails unless this becomes of a packet from a station of a net on.
func travelIs(t *testing.T, net []impl.Station, from int, p impl.Packet, want impl.Trip) {
	t.Helper()
	if got := impl.Travel(net, from, p); !sameTrip(got, want) {
		t.Fatal(net, from, p, "got", got, "want", want)
	}
}

// pathRoomIs and findRoomIs fail unless so many bytes go at once, or are found by trying.
func pathRoomIs(t *testing.T, net []impl.Station, from int, to int, want int) {
	t.Helper()
	if got := impl.PathRoom(net, from, to); got != want {
		t.Fatal(net, from, to, "got", got, "want", want)
	}
}

func findRoomIs(t *testing.T, net []impl.Station, from int, to int, first int, want int) {
	t.Helper()
	if got := impl.FindRoom(net, from, to, first); got != want {
		t.Fatal(net, from, to, first, "got", got, "want", want)
	}
}

// toTwelve returns a packet to 12 with the bytes of a text.
func toTwelve(text string) impl.Packet {
	return impl.Packet{From: 10, To: 12, Proto: 2, Hops: 9, Id: 3, Data: []byte(text)}
}

// pieceOf returns a piece of a packet with the bytes of a text, after some stations.
func pieceOf(p impl.Packet, at int, text string, more bool, hops int) impl.Packet {
	p.At = at
	p.Data = []byte(text)
	p.More = more
	p.Hops = hops
	return p
}

// whole returns a packet that may not be cut.
func whole(p impl.Packet) impl.Packet {
	p.Whole = true
	return p
}

func TestP29KnownPacketsGoOn(t *testing.T) {
	s := stationOf(10, wayVia(11, 40), wayTo(13, 14, 4))
	p := toTwelve("abcdefg")
	goesOn(t, s, p, 11, withHops(p, 8))
	p.To = 13
	goesOn(t, s, p, 14, pieceOf(p, 0, "abcd", true, 8), pieceOf(p, 4, "efg", false, 8))
	p.Data = []byte("abcd")
	goesOn(t, s, p, 14, withHops(p, 8))
	p.Data = []byte("abcdefgh")
	goesOn(t, s, p, 14, pieceOf(p, 0, "abcd", true, 8), pieceOf(p, 4, "efgh", false, 8))
	// A piece is cut where it stands.
	p.At = 100
	p.More = true
	goesOn(t, s, p, 14, pieceOf(p, 100, "abcd", true, 8), pieceOf(p, 104, "efgh", true, 8))
}

func TestP29WhatIsForTheStationArrives(t *testing.T) {
	for _, p := range samplePackets() {
		want := impl.Done{Kind: impl.DoneHere, Packets: []impl.Packet{p}}
		forwardIs(t, stationOf(p.To), p, want)
		// It does not matter that there is a way, how narrow it is, and how many stations it may pass.
		s := stationOf(p.To, wayVia(11, 1), wayTo(p.To, 12, 1))
		for _, hops := range []int{0, 1, 2, 255} {
			q := withHops(p, hops)
			forwardIs(t, s, q, impl.Done{Kind: impl.DoneHere, Packets: []impl.Packet{q}})
		}
	}
	fault := impl.Packet{To: 10, Proto: 1, Data: []byte{4, 0, 0, 0}}
	forwardIs(t, stationOf(10), fault, impl.Done{Kind: impl.DoneHere, Packets: []impl.Packet{fault}})
}

func TestP29PacketsThatMayPassFewStations(t *testing.T) {
	p := toTwelve("abc")
	for _, s := range []impl.Station{stationOf(10, wayVia(11, 40)), stationOf(10, wayVia(10, 3)), stationOf(0, wayTo(12, 12, 48))} {
		isNoted(t, s, withHops(p, 0), impl.NoteLate, 0)
		isNoted(t, s, withHops(p, 1), impl.NoteLate, 0)
		for hops := 2; hops <= 255; hops++ {
			goesOn(t, s, withHops(p, hops), s.Routes[0].Via, withHops(p, hops-1))
		}
	}
}

func TestP29WithoutARouteThereIsNoWay(t *testing.T) {
	p := toTwelve("abc")
	isNoted(t, stationOf(10), p, impl.NoteNoWay, 0)
	isNoted(t, stationOf(65535, wayTo(13, 13, 48)), p, impl.NoteNoWay, 0)
	isNoted(t, stationOf(0, wayTo(11, 12, 48), wayTo(13, 12, 48)), p, impl.NoteNoWay, 0)
	isNoted(t, stationOf(10), whole(p), impl.NoteNoWay, 0)
}

func TestP29TheLongestRouteCounts(t *testing.T) {
	s := stationOf(10, wayVia(1, 1), impl.Route{Addr: 0, Bits: 8, Via: 2, Room: 2}, wayTo(12, 3, 48))
	p := toTwelve("abc")
	goesOn(t, s, p, 3, withHops(p, 8))
	p.To = 13
	goesOn(t, s, p, 2, pieceOf(p, 0, "ab", true, 8), pieceOf(p, 2, "c", false, 8))
	p.To = 256
	goesOn(t, s, p, 1, pieceOf(p, 0, "a", true, 8), pieceOf(p, 1, "b", true, 8), pieceOf(p, 2, "c", false, 8))
}

func TestP29WaysAsWideAsThePacket(t *testing.T) {
	for many := 1; many <= 48; many++ {
		p := toTwelve(string(mixedBytes(many, many)))
		for room := 1; room <= 48; room++ {
			s := stationOf(10, wayVia(11, room))
			if many <= room {
				goesOn(t, s, p, 11, withHops(p, 8))
				goesOn(t, s, whole(p), 11, withHops(whole(p), 8))
				continue
			}
			pieces, _ := cutAsDefined(withHops(p, 8), room)
			goesOn(t, s, p, 11, pieces...)
			isNoted(t, s, whole(p), impl.NoteLong, room)
		}
	}
}

func TestP29PacketsWithoutBytesGoOn(t *testing.T) {
	for room := 1; room <= 48; room++ {
		s := stationOf(10, wayVia(11, room))
		p := toTwelve("")
		goesOn(t, s, p, 11, withHops(p, 8))
		goesOn(t, s, whole(p), 11, withHops(whole(p), 8))
		p.At = 255
		goesOn(t, s, p, 11, withHops(p, 8))
	}
}

func TestP29TheFirstFaultIsTold(t *testing.T) {
	p := whole(toTwelve("abcdefg"))
	isNoted(t, stationOf(10), withHops(p, 1), impl.NoteLate, 0)
	isNoted(t, stationOf(10, wayVia(11, 6)), withHops(p, 1), impl.NoteLate, 0)
	isNoted(t, stationOf(10, wayTo(13, 11, 6)), withHops(p, 2), impl.NoteNoWay, 0)
	isNoted(t, stationOf(10, wayVia(11, 6)), withHops(p, 2), impl.NoteLong, 6)
	goesOn(t, stationOf(10, wayVia(11, 7)), withHops(p, 2), 11, withHops(p, 1))
}

func TestP29WhatMayNotBeNotedAboutIsGone(t *testing.T) {
	narrow := stationOf(9, wayVia(11, 3))
	for _, kind := range faultKinds() {
		p := toTwelve(string(noteAsBytes(impl.Note{Kind: kind, N: 300, Data: mixedBytes(kind, 20)})))
		p.Proto = impl.ProtoNote
		isGone(t, stationOf(9), p)
		isGone(t, stationOf(9, wayVia(11, 48)), withHops(p, 1))
		isGone(t, narrow, withHops(p, 0))
		isGone(t, narrow, whole(p))
		goesOn(t, stationOf(9, wayVia(11, 24)), whole(p), 11, withHops(whole(p), 8))
	}
	for _, at := range []int{1, 2, 48, 255} {
		for _, more := range []bool{false, true} {
			p := pieceOf(toTwelve(""), at, "abc", more, 9)
			isGone(t, stationOf(9), p)
			isGone(t, narrow, withHops(p, 1))
			isGone(t, narrow, withHops(p, 0))
			goesOn(t, narrow, p, 11, withHops(p, 8))
		}
	}
	// About a first piece, and about notes that tell no fault, faults are told.
	isNoted(t, stationOf(9), pieceOf(toTwelve(""), 0, "abc", true, 9), impl.NoteNoWay, 0)
	for _, kind := range otherKinds() {
		p := toTwelve(string(noteAsBytes(impl.Note{Kind: kind, Data: []byte("hi")})))
		p.Proto = impl.ProtoNote
		isNoted(t, stationOf(9), p, impl.NoteNoWay, 0)
		isNoted(t, narrow, whole(p), impl.NoteLong, 3)
	}
}

func TestP29WhatCannotBeCutSoIsGone(t *testing.T) {
	p := pieceOf(toTwelve(""), 250, "abcdefghij", true, 9)
	for room := 1; room <= 48; room++ {
		s := stationOf(10, wayVia(11, room))
		// A piece may begin at 255, but not behind it.
		if room == 5 {
			goesOn(t, s, p, 11, pieceOf(p, 250, "abcde", true, 8), pieceOf(p, 255, "fghij", true, 8))
		} else if room < 10 {
			isGone(t, s, p)
		} else {
			goesOn(t, s, p, 11, withHops(p, 8))
		}
	}
	p.At = 255
	p.More = false
	isGone(t, stationOf(10, wayVia(11, 9)), p)
	goesOn(t, stationOf(10, wayVia(11, 10)), p, 11, withHops(p, 8))
}

func TestP29AllIsDoneAsDefined(t *testing.T) {
	kinds := []int{0, 0, 0, 0}
	for _, net := range sampleNets() {
		for _, s := range net {
			for _, to := range goals(net) {
				for _, p := range travellers(to) {
					done := impl.Forward(s, p)
					kinds[done.Kind]++
					forwardIs(t, s, p, forwardAsDefined(s, p))
					keepsThePacket(t, s, p, done)
				}
			}
		}
	}
	for _, many := range kinds {
		if many < 1000 {
			t.Fatal("too few of one kind", kinds)
		}
	}
}

// keepsThePacket fails unless what becomes of a packet is what is promised: its bytes go on with one less in Hops, it arrives, or a fault is told to the one who sent it.
func keepsThePacket(t *testing.T, s impl.Station, p impl.Packet, done impl.Done) {
	t.Helper()
	all := []byte{}
	for _, q := range done.Packets {
		packetOkIs(t, q, true)
		all = append(all, q.Data...)
		on := done.Kind == impl.DoneOn && q.Hops == p.Hops-1 && q.To == p.To
		here := done.Kind == impl.DoneHere && samePacket(q, p)
		noted := done.Kind == impl.DoneNote && impl.NoteFault(q) && q.To == p.From && q.From == s.Addr
		if !on && !here && !noted {
			t.Fatal(s, p, done)
		}
	}
	if done.Kind == impl.DoneOn && !sameBytes(all, p.Data) {
		t.Fatal(s, p, done)
	}
}

func TestP29EachRouteAndPacket(t *testing.T) {
	packets := samplePackets()
	for i, list := range sampleLists() {
		s := impl.Station{Addr: 4660, Routes: list}
		for k, addr := range probes(list) {
			p := packets[(i+k)%len(packets)]
			p.To = addr
			forwardIs(t, s, p, forwardAsDefined(s, p))
		}
	}
}

func TestP29OfOthersNothingBecomes(t *testing.T) {
	good := stationOf(10, wayVia(11, 20))
	for _, p := range badPackets() {
		isGone(t, good, p)
		isGone(t, stationOf(2), p)
		isGone(t, impl.Station{Addr: p.To}, p)
	}
	for _, s := range badStations() {
		for _, p := range []impl.Packet{{}, toTwelve("abc"), withHops(toTwelve("abc"), 1), whole(toTwelve("abc"))} {
			isGone(t, s, p)
			// Also if it is for the address of the station.
			p.To = s.Addr
			isGone(t, s, p)
		}
	}
}

// threeInLine returns the stations 10, 11 and 12, with room for 40 bytes from 10 on, and for 4 from 11 on.
func threeInLine() []impl.Station {
	return lineOf(40, 40, 4)
}

func TestP30KnownTravels(t *testing.T) {
	net := threeInLine()
	p := toTwelve("abcdefg")
	travelIs(t, net, 0, p, impl.Trip{Arrived: []impl.Packet{pieceOf(p, 0, "abcd", true, 7), pieceOf(p, 4, "efg", false, 7)}, Steps: 4})
	travelIs(t, net, 1, p, impl.Trip{Arrived: []impl.Packet{pieceOf(p, 0, "abcd", true, 8), pieceOf(p, 4, "efg", false, 8)}, Steps: 3})
	travelIs(t, net, 2, p, impl.Trip{Arrived: []impl.Packet{p}, Steps: 1})
	p.Whole = true
	travelIs(t, net, 0, p, impl.Trip{Notes: []impl.Packet{noteFrom(11, p, noteAbout(withHops(p, 8), impl.NoteLong, 4))}, Steps: 2})
	p.Data = []byte("abcd")
	travelIs(t, net, 0, p, impl.Trip{Arrived: []impl.Packet{withHops(p, 7)}, Steps: 3})
	p.To = 77
	travelIs(t, net, 0, p, impl.Trip{Notes: []impl.Packet{noteFrom(12, p, noteAbout(withHops(p, 7), impl.NoteNoWay, 0))}, Steps: 3})
}

func TestP30ThePacketsOwnStation(t *testing.T) {
	for _, net := range knownNets() {
		for from, s := range net {
			for _, p := range travellers(s.Addr) {
				for _, hops := range []int{0, 1, 2, 255} {
					p.Hops = hops
					travelIs(t, net, from, p, impl.Trip{Arrived: []impl.Packet{p}, Steps: 1})
				}
			}
		}
	}
}

func TestP30PacketsThatMayPassFewStations(t *testing.T) {
	net := lineOf(48, 48, 48, 48, 48)
	p := toTwelve("abc")
	p.To = 14
	for hops := 0; hops <= 9; hops++ {
		p.Hops = hops
		if hops > 4 {
			travelIs(t, net, 0, p, impl.Trip{Arrived: []impl.Packet{withHops(p, hops-4)}, Steps: 5})
			continue
		}
		// It was at the first station with Hops, and at each other one with one less.
		steps, at, last := hops, 9+hops, withHops(p, 1)
		if hops == 0 {
			steps, at, last = 1, 10, p
		}
		travelIs(t, net, 0, p, impl.Trip{Notes: []impl.Packet{noteFrom(at, p, noteAbout(last, impl.NoteLate, 0))}, Steps: steps})
	}
}

func TestP30CirclesEnd(t *testing.T) {
	for many := 1; many <= 5; many++ {
		for to := 0; to < many; to++ {
			net := circleOf(many, to, 20)
			for _, hops := range []int{1, 2, 3, 6, 64, 255} {
				p := withHops(impl.Packet{From: 7, To: 77, Proto: 6, Data: []byte("abc")}, hops)
				trip := impl.Travel(net, 0, p)
				if trip.Steps != hops || len(trip.Arrived) != 0 || len(trip.Notes) != 1 {
					t.Fatal(many, to, hops, trip)
				}
				travelIs(t, net, 0, p, travelAsDefined(net, 0, p))
				told, _ := impl.NoteFrom(trip.Notes[0].Data)
				if told.Kind != impl.NoteLate || trip.Notes[0].To != 7 {
					t.Fatal(many, to, hops, trip)
				}
			}
		}
	}
}

func TestP30AStationThatRoutesToItself(t *testing.T) {
	net := []impl.Station{stationOf(10, wayVia(10, 2)), stationOf(11)}
	p := impl.Packet{From: 10, To: 11, Proto: 6, Hops: 3, Data: []byte("abc")}
	// Both pieces go on twice; about the second one no note may be told.
	late := noteAbout(pieceOf(p, 0, "ab", true, 1), impl.NoteLate, 0)
	travelIs(t, net, 0, p, impl.Trip{Notes: []impl.Packet{noteFrom(10, p, late)}, Steps: 5})
	travelIs(t, net, 0, whole(p), impl.Trip{Notes: []impl.Packet{noteFrom(10, p, noteAbout(whole(p), impl.NoteLong, 2))}, Steps: 1})
	// What is for itself arrives there all the same.
	p.To = 10
	travelIs(t, net, 0, p, impl.Trip{Arrived: []impl.Packet{p}, Steps: 1})
}

func TestP30AllPiecesInCirclesEnd(t *testing.T) {
	for many := 1; many <= 5; many++ {
		net := circleOf(many, 0, 1)
		p := impl.Packet{From: 7, To: 77, Proto: 6, Hops: 255, Data: mixedBytes(1, 48)}
		trip := impl.Travel(net, many-1, p)
		if trip.Steps != 1+48*254 || len(trip.Arrived) != 0 || len(trip.Notes) != 1 {
			t.Fatal(many, trip)
		}
	}
}

func TestP30StationsThatAreNotThere(t *testing.T) {
	p := toTwelve("abcdefg")
	for _, q := range []impl.Packet{p, whole(p), withHops(p, 2), toTwelve("")} {
		travelIs(t, []impl.Station{stationOf(10, wayVia(99, 20))}, 0, q, impl.Trip{Steps: 1})
		travelIs(t, []impl.Station{stationOf(11), stationOf(10, wayVia(12, 20))}, 1, q, impl.Trip{Steps: 1})
	}
	// All pieces are gone at once, though they are some.
	travelIs(t, []impl.Station{stationOf(10, wayVia(99, 2))}, 0, p, impl.Trip{Steps: 1})
	travelIs(t, []impl.Station{stationOf(10, wayVia(11, 2)), stationOf(11, wayVia(0, 1))}, 0, p, impl.Trip{Steps: 5})
	// A note that a fault may not be told about is nothing.
	travelIs(t, []impl.Station{stationOf(10)}, 0, impl.Packet{To: 12, Proto: 1, Hops: 9, Data: []byte{4, 0, 0, 0}}, impl.Trip{Steps: 1})
}

func TestP30PiecesAreCutAgainAndNotPutTogether(t *testing.T) {
	net := lineOf(48, 6, 30, 4)
	p := toTwelve("abcdefghijklm")
	p.To = 13
	travelIs(t, net, 0, p, impl.Trip{Arrived: []impl.Packet{
		pieceOf(p, 0, "abcd", true, 6), pieceOf(p, 4, "ef", true, 6),
		pieceOf(p, 6, "ghij", true, 6), pieceOf(p, 10, "kl", true, 6),
		pieceOf(p, 12, "m", false, 6),
	}, Steps: 1 + 3 + 3 + 5})
	p.More = true
	p.At = 200
	travelIs(t, net, 0, p, impl.Trip{Arrived: []impl.Packet{
		pieceOf(p, 200, "abcd", true, 6), pieceOf(p, 204, "ef", true, 6),
		pieceOf(p, 206, "ghij", true, 6), pieceOf(p, 210, "kl", true, 6),
		pieceOf(p, 212, "m", true, 6),
	}, Steps: 1 + 3 + 3 + 5})
}

func TestP30PiecesWithoutAPlaceAreGone(t *testing.T) {
	net := lineOf(48, 6, 30, 4)
	p := pieceOf(toTwelve(""), 246, "abcdefghijklm", false, 9)
	p.To = 13
	// Of the pieces at 246, 252 and 258 there is none, so all are gone; with the last one at 252 the narrower way cuts that one.
	travelIs(t, net, 0, p, impl.Trip{Steps: 1})
	p.Data = p.Data[:11]
	travelIs(t, net, 0, p, impl.Trip{Arrived: []impl.Packet{
		pieceOf(p, 246, "abcd", true, 6), pieceOf(p, 250, "ef", true, 6),
	}, Steps: 1 + 2 + 2 + 2})
}

func TestP30WhatWaitedFirstIsDoneFirst(t *testing.T) {
	// All pieces go the same way, so they stay in order as long as none is done ahead of one that waited longer.
	net := []impl.Station{stationOf(10, wayVia(11, 2)), stationOf(11, wayVia(12, 1)), stationOf(12)}
	p := toTwelve("abcd")
	travelIs(t, net, 0, p, impl.Trip{Arrived: []impl.Packet{
		pieceOf(p, 0, "a", true, 7), pieceOf(p, 1, "b", true, 7), pieceOf(p, 2, "c", true, 7), pieceOf(p, 3, "d", false, 7),
	}, Steps: 7})
	p.To = 13
	travelIs(t, net, 0, p, impl.Trip{Notes: []impl.Packet{
		noteFrom(12, p, noteAbout(pieceOf(p, 0, "a", true, 7), impl.NoteNoWay, 0)),
	}, Steps: 7})
}

func TestP30FaultsOnTheWayAreNotNoted(t *testing.T) {
	net := threeInLine()
	for _, kind := range faultKinds() {
		p := toTwelve(string(noteAsBytes(impl.Note{Kind: kind, N: 1, Data: []byte("hello")})))
		p.Proto = impl.ProtoNote
		travelIs(t, net, 0, whole(p), impl.Trip{Steps: 2})
		travelIs(t, net, 0, withHops(p, 1), impl.Trip{Steps: 1})
		travelIs(t, net, 1, withHops(p, 1), impl.Trip{Steps: 1})
		p.To = 77
		travelIs(t, lineOf(40, 40, 40), 0, p, impl.Trip{Steps: 3})
		// Its first piece is no fault, so that one is noted about.
		first := withHops(p, 7)
		first.More = true
		first.Data = p.Data[:4]
		travelIs(t, net, 0, p, impl.Trip{Notes: []impl.Packet{noteFrom(12, p, noteAbout(first, impl.NoteNoWay, 0))}, Steps: 5})
	}
}

func TestP30PacketsWithoutBytes(t *testing.T) {
	for _, p := range []impl.Packet{toTwelve(""), whole(toTwelve("")), pieceOf(toTwelve(""), 255, "", false, 9)} {
		travelIs(t, threeInLine(), 0, p, impl.Trip{Arrived: []impl.Packet{withHops(p, 7)}, Steps: 3})
		travelIs(t, circleOf(2, 0, 1), 0, p, travelAsDefined(circleOf(2, 0, 1), 0, p))
	}
}

func TestP30AllTravelsAreAsDefined(t *testing.T) {
	arrived, noted, none := 0, 0, 0
	for _, net := range sampleNets() {
		for from := range net {
			for _, to := range goals(net) {
				for _, p := range travellers(to) {
					trip := impl.Travel(net, from, p)
					travelIs(t, net, from, p, travelAsDefined(net, from, p))
					bytesArriveOnce(t, net, from, p, trip)
					faultsAreTold(t, net, p, trip)
					arrived += len(trip.Arrived)
					noted += len(trip.Notes)
					if len(trip.Arrived)+len(trip.Notes) == 0 {
						none++
					}
				}
			}
		}
	}
	if arrived < 1000 || noted < 1000 || none < 1000 {
		t.Fatal("too few of one kind", arrived, noted, none)
	}
}

// bytesArriveOnce fails unless what arrived is for the address of the packet, with fewer Hops unless it was there from the beginning, and each of its bytes is one that was sent, in its place, and none is there twice.
func bytesArriveOnce(t *testing.T, net []impl.Station, from int, p impl.Packet, trip impl.Trip) {
	t.Helper()
	came := filledBytes(0, len(p.Data))
	for _, q := range trip.Arrived {
		packetOkIs(t, q, true)
		if q.To != p.To || q.From != p.From || q.Proto != p.Proto || q.Id != p.Id || q.Whole != p.Whole || q.At < p.At {
			t.Fatal("not of the packet", net, from, p, q)
		}
		if q.Hops > p.Hops || q.Hops == p.Hops && net[from].Addr != p.To {
			t.Fatal("not fewer Hops", net, from, p, q)
		}
		end := q.At - p.At + len(q.Data)
		if end > len(p.Data) || q.More != (p.More || end < len(p.Data)) || !sameBytes(q.Data, p.Data[q.At-p.At:end]) {
			t.Fatal("not the bytes that were sent", net, from, p, q)
		}
		for i := q.At - p.At; i < end; i++ {
			came[i]++
			if came[i] > 1 {
				t.Fatal("a byte arrived twice", net, from, p, trip)
			}
		}
	}
	if len(p.Data) == 0 && len(trip.Arrived) > 1 {
		t.Fatal("no bytes arrived twice", net, from, p, trip)
	}
}

// faultsAreTold fails unless at most one note is told, which is a fault from a station of the net to the one who sent the packet, and no more is done than there are pieces and stations that these may pass.
func faultsAreTold(t *testing.T, net []impl.Station, p impl.Packet, trip impl.Trip) {
	t.Helper()
	if len(trip.Notes) > 1 || trip.Steps < 1 || trip.Steps > (len(p.Data)+1)*(p.Hops+1) {
		t.Fatal(net, p, trip)
	}
	for _, told := range trip.Notes {
		if !impl.NoteFault(told) || told.To != p.From || told.Id != p.Id || told.Hops != 64 || numberOf(net, told.From) < 0 {
			t.Fatal(net, p, told)
		}
	}
}

// isNoTravel fails if anything becomes of a packet.
func isNoTravel(t *testing.T, net []impl.Station, from int, p impl.Packet) {
	t.Helper()
	travelIs(t, net, from, p, impl.Trip{})
}

func TestP30WhatIsNotOkDoesNotTravel(t *testing.T) {
	p := toTwelve("abc")
	for _, net := range badNets() {
		for from := -1; from <= len(net); from++ {
			isNoTravel(t, net, from, p)
		}
	}
	for _, net := range sampleNets() {
		for _, from := range append(noStations(), len(net), len(net)+1) {
			isNoTravel(t, net, from, p)
			isNoTravel(t, net, from, impl.Packet{To: 10})
		}
	}
	for _, q := range badPackets() {
		for from := -1; from <= 3; from++ {
			isNoTravel(t, threeInLine(), from, q)
			isNoTravel(t, circleOf(3, 0, 2), from, q)
			isNoTravel(t, nil, from, q)
		}
		q.To = 10
		if !impl.PacketOk(q) {
			isNoTravel(t, threeInLine(), 0, q)
		}
	}
}

func TestP31KnownRoomsAreFound(t *testing.T) {
	net := threeInLine()
	for first := 1; first <= 48; first++ {
		least := first
		if first > 4 {
			least = 4
		}
		findRoomIs(t, net, 0, 12, first, least)
		findRoomIs(t, net, 0, 10, first, first)
		findRoomIs(t, net, 0, 99, first, 0)
	}
	findRoomIs(t, net, 0, 11, 48, 40)
	findRoomIs(t, net, 0, 11, 41, 40)
	findRoomIs(t, net, 0, 11, 40, 40)
	findRoomIs(t, net, 0, 11, 39, 39)
	findRoomIs(t, net, 2, 10, 48, 40)
	findRoomIs(t, lineOf(48, 48, 48, 48, 48), 0, 14, 48, 48)
	findRoomIs(t, lineOf(48, 48, 48, 48, 1), 0, 14, 48, 1)
	findRoomIs(t, lineOf(48, 40, 30, 20, 10), 0, 14, 48, 10)
	findRoomIs(t, lineOf(48, 10, 20, 30, 40), 0, 14, 48, 10)
}

func TestP31EachRoomIsFound(t *testing.T) {
	for room := 1; room <= 48; room++ {
		for first := 1; first <= 48; first++ {
			want := first
			if room < first {
				want = room
			}
			findRoomIs(t, lineOf(48, 48, room), 0, 12, first, want)
			findRoomIs(t, lineOf(48, room), 0, 11, first, want)
		}
	}
}

func TestP31InACircleNoRoomIsFound(t *testing.T) {
	for many := 1; many <= 5; many++ {
		for to := 0; to < many; to++ {
			for _, room := range []int{1, 20, 48} {
				net := circleOf(many, to, room)
				for _, first := range []int{1, 19, 20, 21, 48} {
					for from := range net {
						findRoomIs(t, net, from, 99, first, 0)
					}
				}
			}
		}
	}
	// A circle that becomes narrower is tried with fewer and fewer bytes, none of which arrive.
	net := []impl.Station{stationOf(10, wayVia(11, 30)), stationOf(11, wayVia(12, 20)), stationOf(12, wayVia(10, 10))}
	findRoomIs(t, net, 0, 99, 48, 0)
}

func TestP31RoomsAreTheLesserOfBoth(t *testing.T) {
	found := 0
	for _, net := range sampleNets() {
		for from := range net {
			for _, to := range goals(net) {
				room := impl.PathRoom(net, from, to)
				for _, first := range []int{1, 3, 4, 5, 19, 20, 47, 48} {
					want := first
					if room < first {
						want = room
					}
					findRoomIs(t, net, from, to, first, want)
				}
				if room > 0 {
					found++
				}
			}
		}
	}
	if found < 1000 {
		t.Fatal("too few ways", found)
	}
}

func TestP31NothingIsFoundOfOthers(t *testing.T) {
	for _, net := range badNets() {
		for from := -1; from <= len(net); from++ {
			findRoomIs(t, net, from, 10, 20, 0)
			findRoomIs(t, net, from, 14, 1, 0)
		}
	}
	for _, net := range sampleNets() {
		for _, from := range append(noStations(), len(net), len(net)+1) {
			findRoomIs(t, net, from, 10, 20, 0)
		}
		for from, s := range net {
			for _, to := range noAddrs() {
				findRoomIs(t, net, from, to, 20, 0)
			}
			for _, first := range noRooms() {
				findRoomIs(t, net, from, s.Addr, first, 0)
				findRoomIs(t, net, from, 11, first, 0)
			}
		}
	}
}

// arrivesTogether fails unless a packet arrives in pieces that are put together to its bytes, by the last one and not ahead of it.
func arrivesTogether(t *testing.T, net []impl.Station, from int, p impl.Packet, now int) {
	t.Helper()
	trip := impl.Travel(net, from, p)
	if len(trip.Arrived) == 0 || len(trip.Notes) != 0 {
		t.Fatal("it does not arrive", net, from, p, trip)
	}
	parts := []impl.Part{}
	last := len(trip.Arrived) - 1
	for _, q := range trip.Arrived[:last] {
		parts = heardOnTheWay(t, parts, q, now)
	}
	want := withHops(p, trip.Arrived[0].Hops)
	partsWholeIs(t, parts, trip.Arrived[last], now, nil, want)
}

func TestP32KnownPacketsArrive(t *testing.T) {
	for many := 0; many <= 48; many++ {
		p := toTwelve(string(mixedBytes(many, many)))
		arrivesTogether(t, threeInLine(), 0, p, 0)
		arrivesTogether(t, threeInLine(), 2, p, 999985)
		p.To = 14
		for _, net := range [][]impl.Station{lineOf(48, 48, 20, 7, 1), lineOf(48, 5, 48, 3, 48), lineOf(48, 7, 6, 5, 4), lineOf(48, 1, 2, 3, 4)} {
			for from := 0; from <= 4; from++ {
				arrivesTogether(t, net, from, p, many)
			}
		}
	}
}

func TestP32WhereThereIsAWayAllPiecesArrive(t *testing.T) {
	ways, none := 0, 0
	for _, net := range sampleNets() {
		for from := range net {
			for _, to := range goals(net) {
				for _, many := range []int{0, 1, 3, 4, 5, 20, 47, 48} {
					p := impl.Packet{From: 5, To: to, Proto: 6, Hops: 64, Id: many, Data: mixedBytes(many, many)}
					if impl.PathRoom(net, from, to) > 0 {
						arrivesTogether(t, net, from, p, 7)
						ways++
					} else if trip := impl.Travel(net, from, p); len(trip.Arrived) > 0 {
						t.Fatal("it arrives without a way", net, from, p, trip)
					} else {
						none++
					}
				}
			}
		}
	}
	if ways < 1000 || none < 1000 {
		t.Fatal("too few of one kind", ways, none)
	}
}

func TestP32AsManyStationsAsItMayPass(t *testing.T) {
	for _, net := range sampleNets() {
		for from := range net {
			for _, to := range goals(net) {
				way, ok := wayAsDefined(net, from, to, nil)
				if !ok {
					continue
				}
				// It is enough if one is left where it arrives.
				p := impl.Packet{From: 5, To: to, Proto: 6, Hops: len(way) + 1, Data: mixedBytes(1, 48)}
				arrivesTogether(t, net, from, p, 0)
				p.Hops = len(way)
				if trip := impl.Travel(net, from, p); (len(trip.Arrived) > 0) != (len(way) == 0) {
					t.Fatal("it passes too many stations", net, from, p, trip)
				}
			}
		}
	}
}

func TestP32WhatMayNotBeCutArrivesOnWideWaysAlone(t *testing.T) {
	for _, net := range sampleNets() {
		for from := range net {
			for _, to := range goals(net) {
				room := roomAsDefined(net, from, to)
				for many := 0; many <= 48; many += 3 {
					p := impl.Packet{From: 5, To: to, Proto: 6, Hops: 64, Whole: true, Data: mixedBytes(many, many)}
					trip := impl.Travel(net, from, p)
					if (len(trip.Arrived) == 1) != (room > 0 && many <= room) || len(trip.Arrived) > 1 {
						t.Fatal(net, from, p, room, trip)
					}
				}
			}
		}
	}
}

// stationOkIs and netOkIs fail unless StationOk or NetOk tells what is wanted.
func stationOkIs(t *testing.T, s impl.Station, want bool) {
	t.Helper()
	if got := impl.StationOk(s); got != want {
		t.Fatal(s, got)
	}
}

func netOkIs(t *testing.T, net []impl.Station, want bool) {
	t.Helper()
	if got := impl.NetOk(net); got != want {
		t.Fatal(net, got)
	}
}

func TestP109StationsAreOk(t *testing.T) {
	for i, list := range sampleLists() {
		stationOkIs(t, stationOf(addrEdges()[i%11], list...), true)
	}
	for _, addr := range addrEdges() {
		// A station may route to itself, also what is for itself, and to stations that there are not.
		stationOkIs(t, stationOf(addr, wayVia(addr, 1), wayTo(addr, addr, 48)), true)
	}
	for _, net := range sampleNets() {
		for _, s := range net {
			stationOkIs(t, s, true)
		}
	}
}

func TestP109AStationWithoutRoutesIsAStation(t *testing.T) {
	for addr := -3; addr <= 70000; addr++ {
		stationOkIs(t, stationOf(addr), addr >= 0 && addr <= 65535)
	}
	for i, list := range append(sampleLists(), badRouteLists()...) {
		addr := addrEdges()[i%11]
		stationOkIs(t, stationOf(addr, list...), routesOkAsDefined(list))
		stationOkIs(t, impl.Station{Addr: addr}, true)
		stationOkIs(t, impl.Station{Addr: addr, Routes: list[:0]}, true)
	}
}

func TestP109InvalidStationsAreNotOk(t *testing.T) {
	for _, s := range badStations() {
		stationOkIs(t, s, false)
	}
	for _, addr := range noAddrs() {
		for _, list := range sampleLists() {
			stationOkIs(t, stationOf(addr, list...), false)
		}
	}
}

func TestP110NetsAreOk(t *testing.T) {
	for _, net := range sampleNets() {
		netOkIs(t, net, true)
	}
	// Stations may have the same routes, and addresses need not be in order.
	netOkIs(t, []impl.Station{stationOf(12, wayVia(11, 9)), stationOf(10, wayVia(11, 9)), stationOf(65535), stationOf(0), stationOf(11, wayVia(11, 9))}, true)
}

func TestP110FewerStationsAreANet(t *testing.T) {
	netOkIs(t, nil, true)
	netOkIs(t, []impl.Station{}, true)
	for _, net := range sampleNets() {
		for many := range net {
			netOkIs(t, net[:many], true)
		}
	}
}

func TestP110AsManyStationsAsThereMayBe(t *testing.T) {
	net := []impl.Station{}
	for i := 0; i < 20; i++ {
		net = append(net, stationOf(65535-i, fullRoutes()[i%5]...))
		netOkIs(t, net, len(net) <= 5)
	}
	for i := 0; i < 70000; i++ {
		net = append(net, stationOf(i%65536))
	}
	netOkIs(t, net, false)
}

func TestP110NoTwoHaveOneAddress(t *testing.T) {
	for _, addr := range addrEdges() {
		net := []impl.Station{stationOf(2), stationOf(3), stationOf(4), stationOf(5), stationOf(6)}
		for i := range net {
			one := netCopied(net)
			one[i].Addr = addr
			netOkIs(t, one, true)
			for k := range net {
				if k != i {
					two := netCopied(one)
					two[k].Addr = addr
					// Routes do not make them differ.
					two[k].Routes = []impl.Route{wayVia(k, 9)}
					netOkIs(t, two, false)
				}
			}
		}
	}
}

func TestP110InvalidNetsAreNotOk(t *testing.T) {
	for _, net := range badNets() {
		netOkIs(t, net, false)
	}
	for _, s := range badStations() {
		for i := 0; i < 5; i++ {
			net := lineOf(20, 9, 9, 9, 9)
			net[i] = s
			netOkIs(t, net, false)
		}
	}
}

func TestP111KnownRooms(t *testing.T) {
	net := threeInLine()
	pathRoomIs(t, net, 0, 10, 48)
	pathRoomIs(t, net, 0, 11, 40)
	pathRoomIs(t, net, 0, 12, 4)
	pathRoomIs(t, net, 1, 10, 40)
	pathRoomIs(t, net, 1, 12, 4)
	pathRoomIs(t, net, 2, 10, 40)
	pathRoomIs(t, net, 2, 13, 0)
	pathRoomIs(t, net, 0, 77, 0)
	for _, rooms := range [][]int{{7, 20, 30, 40}, {20, 7, 30, 40}, {40, 30, 7, 20}, {40, 30, 20, 7}, {7, 7, 7, 7}} {
		pathRoomIs(t, lineOf(48, rooms...), 0, 14, 7)
	}
	pathRoomIs(t, lineOf(48, 48, 48, 48, 48), 0, 14, 48)
	pathRoomIs(t, lineOf(48, 1, 48, 48, 48), 0, 14, 1)
	pathRoomIs(t, lineOf(48, 1, 48, 48, 48), 1, 14, 48)
}

func TestP111WithoutAWayThereIsNoRoom(t *testing.T) {
	// To stations that are not there, also if they have the address.
	pathRoomIs(t, []impl.Station{stationOf(10, wayVia(99, 20))}, 0, 99, 0)
	pathRoomIs(t, []impl.Station{stationOf(10, wayVia(99, 20)), stationOf(11)}, 0, 11, 0)
	// To the station 0, when there is just no route.
	pathRoomIs(t, []impl.Station{stationOf(10), stationOf(0, wayVia(11, 20)), stationOf(11)}, 0, 11, 0)
	pathRoomIs(t, []impl.Station{stationOf(10), stationOf(0)}, 0, 0, 0)
	// By a station that passes it the wrong way.
	pathRoomIs(t, []impl.Station{stationOf(10, wayVia(11, 20)), stationOf(11, wayVia(10, 20)), stationOf(12)}, 0, 12, 0)
	for many := 1; many <= 5; many++ {
		for to := 0; to < many; to++ {
			net := circleOf(many, to, 20)
			for from := range net {
				pathRoomIs(t, net, from, 99, 0)
				for goal := range net {
					pathRoomIs(t, net, from, 10+goal, roomAsDefined(net, from, 10+goal))
				}
			}
		}
	}
}

func TestP111TheWayMayPassAllStations(t *testing.T) {
	for many := 2; many <= 5; many++ {
		net := circleOf(many, 0, 20)
		for from := range net {
			for to := range net {
				want := 20
				if to == from {
					want = 48
				}
				pathRoomIs(t, net, from, 10+to, want)
			}
		}
	}
}

func TestP111AWayIsAsNarrowAsItsNarrowestPart(t *testing.T) {
	for _, net := range sampleNets() {
		for from, s := range net {
			for _, to := range goals(net) {
				room := impl.PathRoom(net, from, to)
				pathRoomIs(t, net, from, to, roomAsDefined(net, from, to))
				r, _ := impl.RouteTo(s.Routes, to)
				if room < 0 || room > 48 || to != s.Addr && room > r.Room {
					t.Fatal(net, from, to, room)
				}
			}
			pathRoomIs(t, net, from, s.Addr, 48)
		}
	}
}

func TestP111OfOthersThereIsNoRoom(t *testing.T) {
	for _, net := range badNets() {
		for from := -1; from <= len(net); from++ {
			pathRoomIs(t, net, from, 10, 0)
			if from >= 0 && from < len(net) {
				pathRoomIs(t, net, from, net[from].Addr, 0)
			}
		}
	}
	for _, net := range sampleNets() {
		for _, from := range append(noStations(), len(net), len(net)+1) {
			pathRoomIs(t, net, from, 10, 0)
			pathRoomIs(t, net, from, 0, 0)
		}
		for from := range net {
			for _, to := range noAddrs() {
				pathRoomIs(t, net, from, to, 0)
			}
		}
	}
}

// stationIsKept and netIsKept fail if what was handed in (stationCopied, netCopied) was written, or the room behind it.
func stationIsKept(t *testing.T, given impl.Station, s impl.Station) {
	t.Helper()
	routesRoomIsKept(t, given.Routes)
	if !sameStation(given, s) {
		t.Fatal("the station was written", s, given)
	}
}

func netIsKept(t *testing.T, given []impl.Station, net []impl.Station) {
	t.Helper()
	for i, s := range net {
		stationIsKept(t, given[i], s)
	}
	for _, s := range given[:len(net)+2][len(net):] {
		if !sameStation(s, stationMark()) {
			t.Fatal("behind the stations", given)
		}
	}
}

// packetIsKept fails if a packet that was handed in (packetCopied) was written, or the room behind its bytes.
func packetIsKept(t *testing.T, given impl.Packet, p impl.Packet) {
	t.Helper()
	packetRoomIsKept(t, given)
	if !samePacket(given, p) {
		t.Fatal("the packet was written", p, given)
	}
}

// netSpoiled turns all that there is in a net.
func netSpoiled(net []impl.Station) {
	for i := range net {
		routesSpoiled(net[i].Routes)
		net[i] = stationOf(77)
	}
}

func TestChapter8NetsThatAreAskedAreKept(t *testing.T) {
	for _, net := range append(sampleNets(), badNets()...) {
		given, p := netCopied(net), packetCopied(toTwelve("abcdefg"))
		impl.NetOk(given)
		for from := -1; from <= len(net); from++ {
			impl.PathRoom(given, from, 12)
			impl.FindRoom(given, from, 12, 48)
			impl.Travel(given, from, p)
		}
		for _, s := range given {
			impl.StationOk(s)
			impl.Forward(s, p)
		}
		netIsKept(t, given, net)
		packetIsKept(t, p, toTwelve("abcdefg"))
	}
}

func TestChapter8PacketsThatAreNoneAreKept(t *testing.T) {
	for _, p := range badPackets() {
		given, net := packetCopied(p), threeInLine()
		impl.Forward(net[0], given)
		impl.Travel(net, 0, given)
		packetIsKept(t, given, p)
	}
}

func TestChapter8WhatBecomesOfAPacketIsNewMemory(t *testing.T) {
	for _, net := range knownNets() {
		for _, s := range net {
			for _, p := range append(travellers(12), travellers(s.Addr)...) {
				want := forwardAsDefined(s, p)
				want.Packets = piecesCopied(want.Packets)
				station, given := stationCopied(s), packetCopied(p)
				got := impl.Forward(station, given)
				stationIsKept(t, station, s)
				packetIsKept(t, given, p)
				routesSpoiled(station.Routes)
				bytesSpoiled(given.Data)
				if !sameDone(got, want) {
					t.Fatal("the answer has memory of what was handed in", s, p, got)
				}
				station, given = stationCopied(s), packetCopied(p)
				got = impl.Forward(station, given)
				piecesAreApart(t, got.Packets)
				piecesSpoiled(got.Packets)
				stationIsKept(t, station, s)
				packetIsKept(t, given, p)
			}
		}
	}
}

func TestChapter8TravelsAreNewMemory(t *testing.T) {
	for _, net := range knownNets() {
		for from := range net {
			for _, p := range append(travellers(12), travellers(14)...) {
				travelIsApart(t, net, from, p)
			}
		}
	}
}

// travelIsApart fails if what became of a packet shares memory with what was handed in, or with each other, or if that is written.
func travelIsApart(t *testing.T, net []impl.Station, from int, p impl.Packet) {
	t.Helper()
	was := travelAsDefined(net, from, p)
	want := impl.Trip{Arrived: piecesCopied(was.Arrived), Notes: piecesCopied(was.Notes), Steps: was.Steps}
	given, packet := netCopied(net), packetCopied(p)
	got := impl.Travel(given, from, packet)
	netIsKept(t, given, net)
	packetIsKept(t, packet, p)
	netSpoiled(given)
	bytesSpoiled(packet.Data)
	if !sameTrip(got, want) {
		t.Fatal("the answer has memory of what was handed in", net, p, got)
	}
	piecesAreApart(t, got.Arrived)
	piecesAreApart(t, got.Notes)
	given, packet = netCopied(net), packetCopied(p)
	got = impl.Travel(given, from, packet)
	piecesSpoiled(got.Arrived)
	if !samePieces(got.Notes, want.Notes) {
		t.Fatal("notes have memory of what arrived", net, p, got)
	}
	piecesSpoiled(got.Notes)
	netIsKept(t, given, net)
	packetIsKept(t, packet, p)
}
