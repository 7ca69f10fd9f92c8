package tests

import (
	"testing"

	"loop.example/netstack/impl"
)

// noBits and noRooms return numbers out of range, also such as are in it in fewer bytes.
func noBits() []int {
	return []int{least, least + 16, -65536, -64, -48, -17, -16, -1, 17, 18, 32, 33, 63, 64, 65, 80, 256, 272, greatest - 16, greatest}
}

func noRooms() []int {
	return []int{least, -256, -48, -1, 0, 49, 50, 255, 256, 257, 65537, greatest}
}

// spanOf returns for how many addresses a route with so many bits is.
func spanOf(bits int) int {
	span := 65536
	for i := 0; i < bits; i++ {
		span = span / 2
	}
	return span
}

// bitOf returns a bit of an address, the greatest one first.
func bitOf(addr int, at int) int {
	return addr >> (15 - at) & 1
}

// fitsAsDefined reports whether the first bits of an address are those of a route, bit by bit.
func fitsAsDefined(r impl.Route, addr int) bool {
	for at := 0; at < r.Bits; at++ {
		if bitOf(r.Addr, at) != bitOf(addr, at) {
			return false
		}
	}
	return true
}

// restIsNothing reports whether all bits of an address but the first ones are 0.
func restIsNothing(addr int, bits int) bool {
	for at := bits; at < 16; at++ {
		if bitOf(addr, at) == 1 {
			return false
		}
	}
	return true
}

// routeOf returns a route to the station 3 with room for 20 bytes.
func routeOf(addr int, bits int) impl.Route {
	return impl.Route{Addr: addr, Bits: bits, Via: 3, Room: 20}
}

// routeVia returns a route to another station.
func routeVia(addr int, bits int, via int) impl.Route {
	return impl.Route{Addr: addr, Bits: bits, Via: via, Room: 20}
}

// sampleRoutes returns routes with each number of bits: the first and the last ones that there are, and some between, with the ends of all ranges.
func sampleRoutes() []impl.Route {
	out := []impl.Route{}
	rooms := []int{1, 2, 20, 47, 48}
	for bits := 0; bits <= 16; bits++ {
		span := spanOf(bits)
		for i, addr := range append(addrEdges(), 43690, 21845, 4352) {
			out = append(out, impl.Route{Addr: addr / span * span, Bits: bits, Via: addrEdges()[i%11], Room: rooms[i%5]})
		}
	}
	return out
}

// badRoutes returns routes that are none: one thing is out of range, a bit too far is set, or all is wrong.
func badRoutes() []impl.Route {
	out := []impl.Route{{}, {Addr: -1, Bits: -1, Via: -1}, {Addr: 65536, Bits: 17, Via: 65536, Room: 49}, {Addr: least, Bits: least, Via: least, Room: least}}
	for _, v := range noBits() {
		out = append(out, routeOf(0, v), routeOf(4352, v), routeOf(65535, v))
	}
	for bits := 0; bits <= 16; bits++ {
		for _, v := range noAddrs() {
			out = append(out, routeOf(v, bits), routeVia(0, bits, v))
		}
		for _, v := range noRooms() {
			out = append(out, impl.Route{Bits: bits, Via: 3, Room: v})
		}
		for at := bits; at < 16; at++ {
			out = append(out, routeOf(1<<(15-at), bits), routeOf(65535-65535%spanOf(bits)+1<<(15-at), bits))
		}
	}
	return out
}

// chain returns routes with so many bits, for addresses that begin as one does, each to a station of its own.
func chain(addr int, lengths ...int) []impl.Route {
	out := []impl.Route{}
	for i, bits := range lengths {
		out = append(out, routeVia(addr-addr%spanOf(bits), bits, 100+i))
	}
	return out
}

// fullRoutes returns lists of as many routes as there may be: one within the other, of one length, and mixed.
func fullRoutes() [][]impl.Route {
	return [][]impl.Route{
		chain(43690, 0, 1, 4, 5, 8, 11, 15, 16),
		chain(65535, 0, 2, 4, 6, 8, 10, 12, 16),
		{routeOf(0, 16), routeOf(1, 16), routeOf(2, 16), routeOf(3, 16), routeOf(4, 16), routeOf(65533, 16), routeOf(65534, 16), routeOf(65535, 16)},
		{routeOf(0, 3), routeOf(8192, 3), routeOf(16384, 3), routeOf(24576, 3), routeOf(32768, 3), routeOf(40960, 3), routeOf(49152, 3), routeOf(57344, 3)},
		{routeVia(0, 0, 9), routeOf(0, 1), routeOf(32768, 1), routeVia(0, 8, 9), routeOf(4352, 8), routeVia(4353, 16, 9), routeOf(4354, 16), routeVia(65535, 16, 3)},
	}
}

// sampleLists returns routes of all lengths: none, one alone, full ones and all their beginnings, and mixed ones.
func sampleLists() [][]impl.Route {
	out := [][]impl.Route{nil, {}}
	for i, r := range sampleRoutes() {
		if i%5 == 0 {
			out = append(out, []impl.Route{r})
		}
	}
	for _, list := range fullRoutes() {
		for many := 1; many <= len(list); many++ {
			out = append(out, list[:many])
		}
	}
	for seed := 0; seed < 300; seed++ {
		out = append(out, mixedRoutes(seed, seed%9))
	}
	return out
}

// mixedRoute returns a route of few addresses, stations and rooms, so that many fit the same addresses, and many say the same.
func mixedRoute(seed int) impl.Route {
	x := mixedBytes(seed, 4)
	bits := []int{0, 1, 2, 4, 7, 8, 9, 12, 15, 16}[int(x[0])%10]
	addr := []int{0, 1, 255, 4352, 4353, 4607, 32768, 65280, 65535}[int(x[1])%9]
	return impl.Route{Addr: addr - addr%spanOf(bits), Bits: bits, Via: int(x[2]) % 2, Room: 47 + int(x[3])%2}
}

// mixedRoutes returns at most so many routes in order, the same ones for the same seed.
func mixedRoutes(seed int, many int) []impl.Route {
	out := []impl.Route{}
	for i := 0; i < many; i++ {
		out = putRoute(out, mixedRoute(9*seed+i))
	}
	return out
}

// putRoute returns routes with one more, instead of the one that is alike in Bits and Addr, by the definition of their order, in new memory.
func putRoute(list []impl.Route, r impl.Route) []impl.Route {
	ahead, behind := []impl.Route{}, []impl.Route{}
	for _, other := range list {
		if orderOf(other) < orderOf(r) {
			ahead = append(ahead, other)
		} else if orderOf(other) > orderOf(r) {
			behind = append(behind, other)
		}
	}
	return append(append(ahead, r), behind...)
}

// orderOf returns a number by which routes are in order, and which is the same just for those that are alike in Bits and Addr.
func orderOf(r impl.Route) int {
	return r.Bits*65536 + r.Addr
}

// routesLeft returns routes without one of them, in new memory.
func routesLeft(list []impl.Route, at int) []impl.Route {
	out := append([]impl.Route{}, list[:at]...)
	return append(out, list[at+1:]...)
}

// routesPlus returns routes with one more at an index, wherever it belongs, in new memory.
func routesPlus(list []impl.Route, at int, r impl.Route) []impl.Route {
	out := append([]impl.Route{}, list[:at]...)
	return append(append(out, r), list[at:]...)
}

// badRouteLists returns lists that are no routes: not in order, with two that are alike, with one that is none, or too many.
func badRouteLists() [][]impl.Route {
	all, near, far, one := routeVia(0, 0, 9), routeOf(0, 8), routeOf(4352, 8), routeOf(1, 16)
	other := impl.Route{Addr: 4352, Bits: 8, Via: 4, Room: 21}
	out := [][]impl.Route{
		{near, all}, {far, near}, {one, far}, {one, all}, {all, far, near}, {all, one, far}, {near, far, all}, {one, near, far, all},
		// The order of addresses alone, and that of bits from the other end.
		{all, near, one, far}, {one, far, near}, {routeOf(32768, 1), routeOf(0, 1)},
		{all, all}, {far, far}, {one, one}, {all, far, far}, {all, all, far}, {far, far, one}, {far, one, far}, {all, one, all},
		// Alike in Bits and Addr alone.
		{far, other}, {other, far}, {all, far, other}, {all, routeVia(0, 0, 8)}, {one, routeVia(1, 16, 8)},
		{all, all, all, all, all, all, all, all, all},
	}
	for _, list := range fullRoutes() {
		out = append(out, routesPlus(list, 8, routeOf(65535, 16)), routesPlus(list, 8, list[7]))
		for i := 0; i < 7; i++ {
			left := routesLeft(list, i)
			out = append(out, routesPlus(left, i+1, list[i]), routesPlus(left, i, list[i+1]))
		}
	}
	// One too many, in order.
	nine := []impl.Route{}
	for i := 0; i < 9; i++ {
		nine = append(nine, routeOf(i*256, 8))
	}
	out = append(out, nine)
	for i, r := range badRoutes() {
		out = append(out, []impl.Route{r}, []impl.Route{all, r}, []impl.Route{r, one}, routesPlus([]impl.Route{all, far, one}, i%4, r))
	}
	return out
}

// routesCopied returns the same routes in new memory, with room behind them that is filled, so that what is written there would be seen (routesRoomIsKept).
func routesCopied(list []impl.Route) []impl.Route {
	out := append([]impl.Route{}, list...)
	return append(out, routeMark(), routeMark())[:len(list)]
}

// routeMark is what stands in the room behind the routes that are handed in.
func routeMark() impl.Route {
	return impl.Route{Addr: 99, Bits: 16, Via: 99, Room: 9}
}

// routesRoomIsKept fails if something was written behind routes that were handed in.
func routesRoomIsKept(t *testing.T, list []impl.Route) {
	t.Helper()
	if !sameRoutes(list[:len(list)+2][len(list):], []impl.Route{routeMark(), routeMark()}) {
		t.Fatal("behind the routes", list)
	}
}

// sameRoutes reports whether both are the same; none are the same as nil.
func sameRoutes(a []impl.Route, b []impl.Route) bool {
	if len(a) != len(b) {
		return false
	}
	for i := range a {
		if a[i] != b[i] {
			return false
		}
	}
	return true
}

// probes returns addresses: the ends of all ranges, and for each route its first and its last one, and those next to them, if there are such.
func probes(list []impl.Route) []int {
	out := addrEdges()
	for _, r := range list {
		last := r.Addr + spanOf(r.Bits) - 1
		for _, addr := range []int{r.Addr - 1, r.Addr, r.Addr + 1, (r.Addr + last) / 2, last - 1, last, last + 1} {
			if addr >= 0 && addr <= 65535 {
				out = append(out, addr)
			}
		}
	}
	return out
}

// routeOkIs fails unless RouteOk tells what is wanted of a route, and RouteFits the same of its own address.
func routeOkIs(t *testing.T, r impl.Route, want bool) {
	t.Helper()
	if ok, fits := impl.RouteOk(r), impl.RouteFits(r, r.Addr); ok != want || fits != want {
		t.Fatal(r, ok, fits)
	}
}

func TestP105RoutesAreOk(t *testing.T) {
	for _, r := range sampleRoutes() {
		routeOkIs(t, r, true)
	}
	routeOkIs(t, impl.Route{Room: 1}, true)
	routeOkIs(t, impl.Route{Addr: 65535, Bits: 16, Via: 65535, Room: 48}, true)
	routeOkIs(t, impl.Route{Addr: 4352, Bits: 8, Room: 1}, true)
	routeOkIs(t, impl.Route{Addr: 4353, Bits: 8, Room: 1}, false)
	// A route may lead to the address that it is for.
	routeOkIs(t, routeVia(7, 16, 7), true)
}

func TestP105OtherBitsAreNothing(t *testing.T) {
	for bits := 0; bits <= 16; bits++ {
		ok := 0
		for addr := 0; addr <= 65535; addr++ {
			want := restIsNothing(addr, bits)
			routeOkIs(t, routeOf(addr, bits), want)
			if want {
				ok++
			}
		}
		if ok*spanOf(bits) != 65536 {
			t.Fatal(bits, ok)
		}
	}
}

func TestP105TheRouteOfAllAddressesIsAt0(t *testing.T) {
	routeOkIs(t, routeOf(0, 0), true)
	for addr := 1; addr <= 65535; addr++ {
		routeOkIs(t, routeOf(addr, 0), false)
	}
}

func TestP105EachStationAndRoom(t *testing.T) {
	for via := 0; via <= 65535; via++ {
		routeOkIs(t, routeVia(4352, 8, via), true)
	}
	for room := 1; room <= 48; room++ {
		routeOkIs(t, impl.Route{Addr: 4352, Bits: 8, Via: 3, Room: room}, true)
	}
}

func TestP105InvalidRoutesAreNotOk(t *testing.T) {
	for _, r := range badRoutes() {
		routeOkIs(t, r, false)
	}
}

// fitsIs fails unless RouteFits tells what is wanted of a route and an address.
func fitsIs(t *testing.T, r impl.Route, addr int, want bool) {
	t.Helper()
	if got := impl.RouteFits(r, addr); got != want {
		t.Fatal(r, addr, got)
	}
}

func TestP20KnownRanges(t *testing.T) {
	r := routeOf(4352, 8)
	fitsIs(t, r, 4351, false)
	fitsIs(t, r, 4352, true)
	fitsIs(t, r, 4400, true)
	fitsIs(t, r, 4607, true)
	fitsIs(t, r, 4608, false)
	fitsIs(t, r, 0, false)
	fitsIs(t, r, 65535, false)
	fitsIs(t, routeOf(32768, 1), 32767, false)
	fitsIs(t, routeOf(32768, 1), 65535, true)
	fitsIs(t, routeOf(0, 1), 32767, true)
	fitsIs(t, routeOf(0, 1), 32768, false)
}

func TestP20TheRouteOfAllAddresses(t *testing.T) {
	for addr := 0; addr <= 65535; addr++ {
		fitsIs(t, routeOf(0, 0), addr, true)
	}
	fitsIs(t, routeOf(0, 0), -1, false)
	fitsIs(t, routeOf(0, 0), 65536, false)
}

func TestP20RoutesOfOneAddress(t *testing.T) {
	for _, own := range addrEdges() {
		for addr := 0; addr <= 65535; addr++ {
			fitsIs(t, routeOf(own, 16), addr, addr == own)
		}
	}
	for own := 0; own <= 65535; own++ {
		fitsIs(t, routeOf(own, 16), own, true)
		fitsIs(t, routeOf(own, 16), own+1, false)
		fitsIs(t, routeOf(own, 16), own-1, false)
	}
}

func TestP20BothEndsTellTheRange(t *testing.T) {
	for bits := 0; bits <= 16; bits++ {
		span := spanOf(bits)
		for first := 0; first <= 65535; first += span {
			r := routeOf(first, bits)
			fitsIs(t, r, first, true)
			fitsIs(t, r, first+span/2, true)
			fitsIs(t, r, first+span-1, true)
			fitsIs(t, r, first-1, false)
			fitsIs(t, r, first+span, false)
		}
	}
}

func TestP20AddressesFitAsDefined(t *testing.T) {
	for i, r := range sampleRoutes() {
		if i%3 > 0 {
			continue
		}
		many := 0
		for addr := 0; addr <= 65535; addr++ {
			want := fitsAsDefined(r, addr)
			if inRange := addr >= r.Addr && addr < r.Addr+spanOf(r.Bits); inRange != want {
				t.Fatal("the range is not that of the first bits", r, addr)
			}
			fitsIs(t, r, addr, want)
			if want {
				many++
			}
		}
		if many != spanOf(r.Bits) {
			t.Fatal(r, many)
		}
	}
}

func TestP20StationAndRoomDoNotCount(t *testing.T) {
	for _, addr := range []int{4351, 4352, 4607, 4608} {
		want := addr == 4352 || addr == 4607
		for _, via := range addrEdges() {
			fitsIs(t, routeVia(4352, 8, via), addr, want)
		}
		for room := 1; room <= 48; room++ {
			fitsIs(t, impl.Route{Addr: 4352, Bits: 8, Room: room}, addr, want)
		}
	}
}

func TestP20InvalidRoutesAndAddressesDoNotFit(t *testing.T) {
	for _, r := range sampleRoutes() {
		for _, addr := range noAddrs() {
			fitsIs(t, r, addr, false)
		}
	}
	for _, r := range badRoutes() {
		for _, addr := range joinedNumbers(addrEdges(), noAddrs()) {
			fitsIs(t, r, addr, false)
		}
		fitsIs(t, r, r.Addr, false)
	}
}

// routesOkIs fails unless RoutesOk tells what is wanted of routes.
func routesOkIs(t *testing.T, list []impl.Route, want bool) {
	t.Helper()
	if got := impl.RoutesOk(list); got != want {
		t.Fatal(list, got)
	}
}

// routesOkAsDefined reports whether these are routes by the definition, with each two of them compared.
func routesOkAsDefined(list []impl.Route) bool {
	ok := len(list) <= 8
	for i, r := range list {
		ok = ok && impl.RouteOk(r)
		for _, other := range list[:i] {
			ok = ok && orderOf(other) < orderOf(r)
		}
	}
	return ok
}

func TestP106RoutesInOrderAreOk(t *testing.T) {
	for _, list := range sampleLists() {
		routesOkIs(t, list, true)
	}
	// Bits come first, so an address may be less than the one ahead of it.
	routesOkIs(t, []impl.Route{routeOf(65280, 8), routeOf(0, 16)}, true)
	routesOkIs(t, []impl.Route{routeOf(0, 8), routeOf(0, 16)}, true)
	routesOkIs(t, []impl.Route{routeOf(0, 0), routeOf(0, 1), routeOf(0, 2)}, true)
	routesOkIs(t, []impl.Route{routeOf(0, 16), routeOf(1, 16)}, true)
	// Stations and room have no order, and may be alike.
	routesOkIs(t, []impl.Route{routeVia(0, 0, 9), routeVia(0, 8, 5), routeVia(256, 8, 5), routeVia(512, 8, 7)}, true)
}

func TestP106FewerRoutesAreRoutes(t *testing.T) {
	routesOkIs(t, nil, true)
	routesOkIs(t, []impl.Route{}, true)
	for _, list := range sampleLists() {
		for i := range list {
			routesOkIs(t, routesLeft(list, i), true)
		}
	}
}

func TestP106AsManyRoutesAsThereMayBe(t *testing.T) {
	list := []impl.Route{}
	for i := 0; i < 20; i++ {
		list = append(list, routeOf(i*256, 8))
		routesOkIs(t, list, len(list) <= 8)
	}
	for i := 0; i < 100000; i++ {
		list = append(list, routeOf(i%65536, 16))
	}
	routesOkIs(t, list, false)
}

func TestP106RoutesAreAsDefined(t *testing.T) {
	ok := 0
	for seed := 0; seed < 100000; seed++ {
		list := []impl.Route{}
		for i := 0; i < 2+seed%3; i++ {
			list = append(list, mixedRoute(5*seed+i))
		}
		want := routesOkAsDefined(list)
		if want {
			ok++
		}
		routesOkIs(t, list, want)
	}
	if ok < 1000 || ok > 99000 {
		t.Fatal("too few of one kind", ok)
	}
}

func TestP106InvalidRoutesAreNotOk(t *testing.T) {
	for _, list := range badRouteLists() {
		routesOkIs(t, list, false)
	}
	for _, list := range fullRoutes() {
		for i := range list {
			for _, r := range []impl.Route{{}, routeOf(0, 17), routeOf(1, 15), routeVia(0, 0, -1), {Addr: 65535, Bits: 16, Room: 49}} {
				bad := routesPlus(routesLeft(list, i), i, r)
				routesOkIs(t, bad, false)
			}
		}
	}
}

// routeToIs fails unless this is the route for an address.
func routeToIs(t *testing.T, list []impl.Route, addr int, want impl.Route) {
	t.Helper()
	if got, ok := impl.RouteTo(list, addr); !ok || got != want {
		t.Fatal(list, addr, "got", got, ok, "want", want)
	}
}

// leadsNowhere fails if there is a route for an address, or if what stands beside false is not nothing.
func leadsNowhere(t *testing.T, list []impl.Route, addr int) {
	t.Helper()
	if got, ok := impl.RouteTo(list, addr); ok || got != (impl.Route{}) {
		t.Fatal(list, addr, got, ok)
	}
}

// routeToAsDefined returns the route for an address by the definition, all routes looked at.
func routeToAsDefined(list []impl.Route, addr int) (impl.Route, bool) {
	best, found := impl.Route{}, false
	for _, r := range list {
		if fitsAsDefined(r, addr) && (!found || r.Bits > best.Bits) {
			best, found = r, true
		}
	}
	return best, found
}

func TestP21KnownRoutes(t *testing.T) {
	all, net, one := impl.Route{Via: 9, Room: 40}, routeOf(4352, 8), routeVia(4353, 16, 5)
	list := []impl.Route{all, net, one}
	routeToIs(t, list, 4353, one)
	routeToIs(t, list, 4352, net)
	routeToIs(t, list, 4354, net)
	routeToIs(t, list, 4607, net)
	routeToIs(t, list, 4608, all)
	routeToIs(t, list, 4351, all)
	routeToIs(t, list, 0, all)
	routeToIs(t, list, 65535, all)
	leadsNowhere(t, []impl.Route{net, one}, 4351)
	leadsNowhere(t, []impl.Route{net, one}, 4608)
	routeToIs(t, []impl.Route{net, one}, 4353, one)
	routeToIs(t, []impl.Route{one}, 4353, one)
	leadsNowhere(t, []impl.Route{one}, 4352)
}

func TestP21TheRouteOfAllAddressesCountsLast(t *testing.T) {
	all := routeVia(0, 0, 9)
	for addr := 0; addr <= 65535; addr++ {
		routeToIs(t, []impl.Route{all}, addr, all)
		routeToIs(t, []impl.Route{all, routeOf(addr, 16)}, addr, routeOf(addr, 16))
	}
	list := []impl.Route{all, routeOf(0, 16), routeOf(65535, 16)}
	routeToIs(t, list, 0, list[1])
	routeToIs(t, list, 1, all)
	routeToIs(t, list, 65534, all)
	routeToIs(t, list, 65535, list[2])
}

func TestP21OneWithinTheOther(t *testing.T) {
	list := chain(43690, 0, 1, 4, 5, 8, 11, 15, 16)
	routeToIs(t, list, 43690, list[7])
	routeToIs(t, list, 43691, list[6])
	for i, r := range list[1:] {
		outside := r.Addr ^ spanOf(r.Bits)
		routeToIs(t, list, outside, list[i])
	}
	list = chain(0, 0, 1, 2, 3, 13, 14, 15, 16)
	for i, addr := range []int{65535, 32767, 16383, 8191, 7, 3, 1, 0} {
		routeToIs(t, list, addr, list[i])
	}
	list = chain(65535, 0, 1, 2, 3, 13, 14, 15, 16)
	for i, addr := range []int{0, 32768, 49152, 57344, 65528, 65532, 65534, 65535} {
		routeToIs(t, list, addr, list[i])
	}
}

func TestP21TheLongestOneOfThoseThatFit(t *testing.T) {
	for _, list := range sampleLists() {
		for _, addr := range probes(list) {
			want, found := routeToAsDefined(list, addr)
			if !found {
				leadsNowhere(t, list, addr)
				continue
			}
			routeToIs(t, list, addr, want)
			countsAlone(t, list, addr, want)
		}
	}
}

// countsAlone fails unless a route is one of the routes, fits an address, and no other one that fits has as many bits, or more.
func countsAlone(t *testing.T, list []impl.Route, addr int, r impl.Route) {
	t.Helper()
	there := 0
	for _, other := range list {
		if other == r {
			there++
		} else if impl.RouteFits(other, addr) && other.Bits >= r.Bits {
			t.Fatal(list, addr, r, other)
		}
	}
	if there != 1 || !impl.RouteFits(r, addr) {
		t.Fatal(list, addr, r, there)
	}
}

func TestP21EachAddress(t *testing.T) {
	for _, list := range fullRoutes() {
		for addr := 0; addr <= 65535; addr++ {
			want, found := routeToAsDefined(list, addr)
			if !found {
				leadsNowhere(t, list, addr)
				continue
			}
			routeToIs(t, list, addr, want)
		}
	}
}

func TestP21WithoutRoutesNothingLeadsAnywhere(t *testing.T) {
	for addr := 0; addr <= 65535; addr++ {
		leadsNowhere(t, nil, addr)
	}
	leadsNowhere(t, []impl.Route{}, 0)
}

func TestP21InvalidRoutesAndAddressesLeadNowhere(t *testing.T) {
	for _, list := range sampleLists() {
		for _, addr := range noAddrs() {
			leadsNowhere(t, list, addr)
		}
	}
	for _, list := range badRouteLists() {
		for _, addr := range append(joinedNumbers(addrEdges(), noAddrs()), 4352, 4353) {
			leadsNowhere(t, list, addr)
		}
	}
}

// routePutIs fails unless these are the routes with one more.
func routePutIs(t *testing.T, list []impl.Route, r impl.Route, want []impl.Route) {
	t.Helper()
	if got, ok := impl.RoutePut(list, r); !ok || !sameRoutes(got, want) {
		t.Fatal(list, r, "got", got, ok, "want", want)
	}
}

// putsNoRoute fails if a route is put, or if what stands beside false is not nothing.
func putsNoRoute(t *testing.T, list []impl.Route, r impl.Route) {
	t.Helper()
	if got, ok := impl.RoutePut(list, r); ok || len(got) != 0 {
		t.Fatal(list, r, got, ok)
	}
}

func TestP22KnownPlaces(t *testing.T) {
	all, net, far, one := routeVia(0, 0, 9), routeOf(4352, 8), routeOf(4608, 8), routeOf(1, 16)
	routePutIs(t, nil, net, []impl.Route{net})
	routePutIs(t, []impl.Route{net}, all, []impl.Route{all, net})
	routePutIs(t, []impl.Route{all}, net, []impl.Route{all, net})
	routePutIs(t, []impl.Route{all, net}, one, []impl.Route{all, net, one})
	routePutIs(t, []impl.Route{all, one}, net, []impl.Route{all, net, one})
	routePutIs(t, []impl.Route{all, net, one}, far, []impl.Route{all, net, far, one})
	routePutIs(t, []impl.Route{all, far, one}, net, []impl.Route{all, net, far, one})
	routePutIs(t, []impl.Route{all, net, far}, routeOf(0, 16), []impl.Route{all, net, far, routeOf(0, 16)})
	routePutIs(t, []impl.Route{routeOf(0, 16), routeOf(65535, 16)}, one, []impl.Route{routeOf(0, 16), one, routeOf(65535, 16)})
}

func TestP22TwiceIsOnce(t *testing.T) {
	for _, list := range sampleLists() {
		for _, r := range list {
			routePutIs(t, list, r, list)
		}
	}
	for _, r := range sampleRoutes() {
		routePutIs(t, nil, r, []impl.Route{r})
		routePutIs(t, []impl.Route{r}, r, []impl.Route{r})
	}
}

func TestP22TheOneThatIsAlikeGoes(t *testing.T) {
	for _, list := range sampleLists() {
		for i, old := range list {
			for _, r := range []impl.Route{{Via: (old.Via + 1) % 65536, Room: old.Room}, {Via: old.Via, Room: old.Room%48 + 1}, {Via: 65535 - old.Via, Room: 49 - old.Room}} {
				r.Addr = old.Addr
				r.Bits = old.Bits
				routePutIs(t, list, r, routesPlus(routesLeft(list, i), i, r))
			}
		}
	}
}

func TestP22AlikeInOneOfBothIsNotAlike(t *testing.T) {
	routePutIs(t, []impl.Route{routeOf(0, 8)}, routeOf(0, 9), []impl.Route{routeOf(0, 8), routeOf(0, 9)})
	routePutIs(t, []impl.Route{routeOf(0, 8)}, routeOf(0, 7), []impl.Route{routeOf(0, 7), routeOf(0, 8)})
	routePutIs(t, []impl.Route{routeOf(256, 8)}, routeOf(0, 8), []impl.Route{routeOf(0, 8), routeOf(256, 8)})
	routePutIs(t, []impl.Route{routeOf(256, 8)}, routeOf(512, 8), []impl.Route{routeOf(256, 8), routeOf(512, 8)})
}

func TestP22NoMoreThanMayBe(t *testing.T) {
	for _, list := range fullRoutes() {
		for _, r := range sampleRoutes() {
			want := putRoute(list, r)
			if len(want) > 8 {
				putsNoRoute(t, list, r)
			} else {
				routePutIs(t, list, r, want)
			}
		}
		// In the place of each one, and one more when one is left out.
		for i, old := range list {
			r := impl.Route{Addr: old.Addr, Bits: old.Bits, Via: 65535, Room: 1}
			routePutIs(t, list, r, routesPlus(routesLeft(list, i), i, r))
			routePutIs(t, routesLeft(list, i), old, list)
			putsNoRoute(t, routesLeft(list, i), impl.Route{})
		}
	}
}

func TestP22InWhateverOrderRoutesArePut(t *testing.T) {
	for _, list := range [][]impl.Route{fullRoutes()[0][:6], fullRoutes()[4][2:], fullRoutes()[2][1:7], mixedRoutes(7, 6)} {
		for _, order := range orders(len(list)) {
			got, ok := []impl.Route(nil), true
			for _, i := range order {
				put := false
				got, put = impl.RoutePut(got, list[i])
				ok = ok && put
			}
			if !ok || !sameRoutes(got, list) {
				t.Fatal(list, order, got, ok)
			}
		}
	}
}

func TestP22WhatIsPutCountsForItsOwnAddresses(t *testing.T) {
	replaced, more := 0, 0
	for seed, list := range sampleLists() {
		for i := 0; i < 12; i++ {
			r := mixedRoute(31*seed + i)
			want := putRoute(list, r)
			if len(want) > 8 {
				putsNoRoute(t, list, r)
				continue
			}
			if len(want) == len(list) {
				replaced++
			} else {
				more++
			}
			routePutIs(t, list, r, want)
			countsForItsOwn(t, list, r)
		}
	}
	if replaced < 100 || more < 100 {
		t.Fatal("too few of one kind", replaced, more)
	}
}

// countsForItsOwn fails unless a route that is put counts for the addresses that it fits, but those with a longer one, and all others have what they had.
func countsForItsOwn(t *testing.T, list []impl.Route, r impl.Route) {
	t.Helper()
	put, _ := impl.RoutePut(list, r)
	routesOkIs(t, put, true)
	for _, addr := range probes(put) {
		was, found := impl.RouteTo(list, addr)
		if impl.RouteFits(r, addr) && (!found || was.Bits <= r.Bits) {
			routeToIs(t, put, addr, r)
		} else if found {
			routeToIs(t, put, addr, was)
		} else {
			leadsNowhere(t, put, addr)
		}
	}
}

func TestP22InvalidRoutesAreNotPut(t *testing.T) {
	for _, list := range badRouteLists() {
		for _, r := range []impl.Route{routeOf(0, 0), routeOf(4352, 8), routeOf(1, 16), {}} {
			putsNoRoute(t, list, r)
		}
		for _, r := range list {
			putsNoRoute(t, list, r)
		}
	}
	for _, r := range badRoutes() {
		putsNoRoute(t, nil, r)
		putsNoRoute(t, []impl.Route{routeVia(0, 0, 9), routeOf(4352, 8)}, r)
		for _, list := range fullRoutes() {
			putsNoRoute(t, list, r)
		}
	}
}

// dropIs fails unless these are the routes without one, and it tells whether there was one.
func dropIs(t *testing.T, list []impl.Route, addr int, bits int, want []impl.Route, was bool) {
	t.Helper()
	if got, ok := impl.RouteDrop(list, addr, bits); ok != was || !sameRoutes(got, want) {
		t.Fatal(list, addr, bits, "got", got, ok, "want", want, was)
	}
}

func TestP23KnownRoutesGo(t *testing.T) {
	all, net, one := routeVia(0, 0, 9), routeOf(4352, 8), routeOf(4352, 16)
	list := []impl.Route{all, net, one}
	dropIs(t, list, 0, 0, []impl.Route{net, one}, true)
	dropIs(t, list, 4352, 8, []impl.Route{all, one}, true)
	dropIs(t, list, 4352, 16, []impl.Route{all, net}, true)
	dropIs(t, []impl.Route{one}, 4352, 16, nil, true)
	dropIs(t, []impl.Route{all}, 0, 0, nil, true)
}

func TestP23WhatIsNotThereLeavesAllAsItIs(t *testing.T) {
	all, net, one := routeVia(0, 0, 9), routeOf(4352, 8), routeOf(4352, 16)
	list := []impl.Route{all, net, one}
	// Alike in Bits, or in Addr, or an address that it fits, does not do.
	dropIs(t, list, 4353, 8, list, false)
	dropIs(t, list, 4608, 8, list, false)
	dropIs(t, list, 4352, 9, list, false)
	dropIs(t, list, 4352, 0, list, false)
	dropIs(t, list, 0, 8, list, false)
	dropIs(t, list, 0, 16, list, false)
	dropIs(t, list, 4353, 16, list, false)
	dropIs(t, nil, 0, 0, nil, false)
	dropIs(t, []impl.Route{}, 4352, 8, nil, false)
}

func TestP23NoRouteHasWhatIsOutOfRange(t *testing.T) {
	for _, list := range sampleLists() {
		for _, bits := range noBits() {
			dropIs(t, list, 0, bits, list, false)
			dropIs(t, list, 65535, bits, list, false)
		}
		for _, addr := range noAddrs() {
			dropIs(t, list, addr, 0, list, false)
			dropIs(t, list, addr, 16, list, false)
		}
	}
}

func TestP23EachOneCanBeDroppedAndPutAgain(t *testing.T) {
	for _, list := range sampleLists() {
		for i, r := range list {
			dropIs(t, list, r.Addr, r.Bits, routesLeft(list, i), true)
			dropIs(t, routesLeft(list, i), r.Addr, r.Bits, routesLeft(list, i), false)
			left, _ := impl.RouteDrop(list, r.Addr, r.Bits)
			routesOkIs(t, left, true)
			routePutIs(t, left, r, list)
		}
	}
}

func TestP23WhatIsDroppedDoesNotCount(t *testing.T) {
	for _, list := range sampleLists() {
		for i, r := range list {
			left, _ := impl.RouteDrop(list, r.Addr, r.Bits)
			for _, addr := range probes(list) {
				want, found := routeToAsDefined(routesLeft(list, i), addr)
				if found {
					routeToIs(t, left, addr, want)
				} else {
					leadsNowhere(t, left, addr)
				}
			}
		}
	}
}

func TestP23AllCanBeDropped(t *testing.T) {
	for _, list := range fullRoutes() {
		for seed := 0; seed < 20; seed++ {
			left := list
			for _, i := range mixedOrder(seed, 8) {
				was := false
				left, was = impl.RouteDrop(left, list[i].Addr, list[i].Bits)
				if !was {
					t.Fatal(list, i, left)
				}
			}
			if len(left) != 0 {
				t.Fatal(list, left)
			}
		}
	}
}

func TestP23InvalidRoutesHaveNothingToDrop(t *testing.T) {
	for _, list := range badRouteLists() {
		dropIs(t, list, 0, 0, nil, false)
		dropIs(t, list, 4352, 8, nil, false)
		dropIs(t, list, least, greatest, nil, false)
		for _, r := range list {
			dropIs(t, list, r.Addr, r.Bits, nil, false)
		}
	}
}

// lessIs fails unless these are the routes without those that are not needed.
func lessIs(t *testing.T, list []impl.Route, want []impl.Route) {
	t.Helper()
	if got := impl.RoutesLess(list); !sameRoutes(got, want) {
		t.Fatal(list, "got", got, "want", want)
	}
}

// lessAsDefined returns the routes that are needed by the definition: each one is looked at, in order, among those that are left.
func lessAsDefined(list []impl.Route) []impl.Route {
	left := append([]impl.Route{}, list...)
	for _, r := range list {
		shorter := []impl.Route{}
		for _, other := range left {
			if other.Bits < r.Bits {
				shorter = append(shorter, other)
			}
		}
		best, found := routeToAsDefined(shorter, r.Addr)
		if found && best.Via == r.Via && best.Room == r.Room {
			left = withoutRoute(left, r)
		}
	}
	return left
}

// withoutRoute returns routes without one of them.
func withoutRoute(list []impl.Route, r impl.Route) []impl.Route {
	for i, other := range list {
		if other == r {
			return routesLeft(list, i)
		}
	}
	return list
}

func TestP24KnownRoutesAreNotNeeded(t *testing.T) {
	all, net, one := routeVia(0, 0, 9), routeOf(4352, 8), routeOf(4353, 16)
	lessIs(t, []impl.Route{all, net, one}, []impl.Route{all, net})
	lessIs(t, []impl.Route{all, net}, []impl.Route{all, net})
	lessIs(t, []impl.Route{net, one}, []impl.Route{net})
	lessIs(t, []impl.Route{all, one}, []impl.Route{all, one})
	lessIs(t, []impl.Route{all}, []impl.Route{all})
	lessIs(t, []impl.Route{routeOf(0, 0), net, one}, []impl.Route{routeOf(0, 0)})
	lessIs(t, nil, nil)
	lessIs(t, []impl.Route{}, nil)
}

func TestP24StationAndRoomAreToBeTheSame(t *testing.T) {
	all := impl.Route{Via: 3, Room: 20}
	for _, r := range []impl.Route{{Via: 3, Room: 21}, {Via: 3, Room: 19}, {Via: 4, Room: 20}, {Via: 2, Room: 20}, {Via: 20, Room: 3}} {
		for bits := 1; bits <= 16; bits++ {
			r.Bits = bits
			r.Addr = 65536 - spanOf(bits)
			lessIs(t, []impl.Route{all, r}, []impl.Route{all, r})
			lessIs(t, []impl.Route{all, routeOf(r.Addr, bits)}, []impl.Route{all})
		}
	}
}

func TestP24TheLongestShorterOneCounts(t *testing.T) {
	all, net, one := routeOf(0, 0), routeVia(4352, 8, 9), routeOf(4353, 16)
	// The one that says the same is not the longest one of those that fit.
	lessIs(t, []impl.Route{all, net, one}, []impl.Route{all, net, one})
	// What is beside it does not matter.
	lessIs(t, []impl.Route{all, net, routeOf(4608, 16)}, []impl.Route{all, net})
	lessIs(t, []impl.Route{net, routeVia(4608, 16, 9)}, []impl.Route{net, routeVia(4608, 16, 9)})
	lessIs(t, []impl.Route{routeVia(0, 0, 1), routeVia(0, 4, 2), routeVia(0, 8, 3), routeVia(0, 12, 2)}, []impl.Route{routeVia(0, 0, 1), routeVia(0, 4, 2), routeVia(0, 8, 3), routeVia(0, 12, 2)})
	lessIs(t, []impl.Route{routeVia(0, 0, 1), routeVia(0, 4, 2), routeVia(0, 8, 3), routeVia(0, 12, 3)}, []impl.Route{routeVia(0, 0, 1), routeVia(0, 4, 2), routeVia(0, 8, 3)})
}

func TestP24AlsoBecauseOfOneThatIsNotNeeded(t *testing.T) {
	// Each one says what the one ahead of it says, which goes.
	list := []impl.Route{}
	for i := 0; i < 8; i++ {
		list = append(list, routeOf(0, 2*i))
		lessIs(t, list, []impl.Route{routeOf(0, 0)})
	}
	list = []impl.Route{routeVia(0, 0, 9), routeOf(4352, 8), routeOf(4352, 12), routeOf(4352, 14), routeVia(4352, 15, 9), routeOf(4352, 16)}
	lessIs(t, list, []impl.Route{list[0], list[1], list[4], list[5]})
}

func TestP24OfOneLengthAllAreNeeded(t *testing.T) {
	lessIs(t, fullRoutes()[2], fullRoutes()[2])
	lessIs(t, fullRoutes()[3], fullRoutes()[3])
	// Both halves that say the same are not put together, and make the whole not less needed.
	halves := []impl.Route{routeVia(0, 0, 9), routeOf(0, 1), routeOf(32768, 1)}
	lessIs(t, halves, halves)
}

func TestP24FewerRoutesLeadToTheSame(t *testing.T) {
	gone := 0
	for _, list := range sampleLists() {
		less := impl.RoutesLess(list)
		lessIs(t, list, lessAsDefined(list))
		lessIs(t, less, less)
		routesOkIs(t, less, true)
		for _, addr := range probes(list) {
			leadsAlike(t, list, less, addr)
		}
		gone += len(list) - len(less)
	}
	if gone < 100 {
		t.Fatal("too few are not needed", gone)
	}
}

// leadsAlike fails unless an address goes on to the same station, with as many bytes at once, by both.
func leadsAlike(t *testing.T, list []impl.Route, less []impl.Route, addr int) {
	t.Helper()
	a, found := impl.RouteTo(list, addr)
	b, still := impl.RouteTo(less, addr)
	if found != still || a.Via != b.Via || a.Room != b.Room {
		t.Fatal(list, less, addr, a, b)
	}
}

func TestP24EachAddressAndManyRoutes(t *testing.T) {
	for _, list := range append(fullRoutes(), mixedRoutes(1, 8), mixedRoutes(5, 8), mixedRoutes(11, 8)) {
		less := impl.RoutesLess(list)
		for addr := 0; addr <= 65535; addr++ {
			leadsAlike(t, list, less, addr)
		}
	}
	for seed := 0; seed < 20000; seed++ {
		list := mixedRoutes(seed, 8)
		less := lessAsDefined(list)
		lessIs(t, list, less)
		lessIs(t, less, less)
	}
}

func TestP24OfInvalidRoutesNoneAreLeft(t *testing.T) {
	for _, list := range badRouteLists() {
		lessIs(t, list, nil)
	}
}

// routesSpoiled turns all routes, and fills the room behind them.
func routesSpoiled(list []impl.Route) {
	for i := range list {
		list[i] = impl.Route{Addr: 77, Bits: 77, Via: 77, Room: 77}
	}
	for i := 0; i < 20; i++ {
		list = append(list, impl.Route{Addr: 76, Bits: 76})
	}
}

// routesAreKept fails if routes that were handed in (routesCopied) were written, or the room behind them.
func routesAreKept(t *testing.T, given []impl.Route, list []impl.Route) {
	t.Helper()
	routesRoomIsKept(t, given)
	if !sameRoutes(given, list) {
		t.Fatal("the routes were written", list, given)
	}
}

func TestChapter6RoutesThatAreAskedAreKept(t *testing.T) {
	for _, list := range append(sampleLists(), badRouteLists()...) {
		given := routesCopied(list)
		impl.RoutesOk(given)
		for _, addr := range []int{-1, 0, 4353, 65535} {
			impl.RouteTo(given, addr)
		}
		routesAreKept(t, given, list)
	}
}

func TestChapter6RoutesWithOneMoreAreNewMemory(t *testing.T) {
	for seed, list := range append(sampleLists(), badRouteLists()...) {
		for _, r := range append([]impl.Route{routeOf(0, 0), routeOf(65535, 16), mixedRoute(seed), {}}, list...) {
			want, _ := impl.RoutePut(list, r)
			want = append([]impl.Route{}, want...)
			given := routesCopied(list)
			got, _ := impl.RoutePut(given, r)
			routesAreKept(t, given, list)
			routesSpoiled(given)
			if !sameRoutes(got, want) {
				t.Fatal("the answer has memory of the routes", list, r, got)
			}
			given = routesCopied(list)
			got, _ = impl.RoutePut(given, r)
			routesSpoiled(got)
			routesAreKept(t, given, list)
		}
	}
}

func TestChapter6RoutesWithoutOneAreNewMemory(t *testing.T) {
	for _, list := range append(sampleLists(), badRouteLists()...) {
		for _, r := range append([]impl.Route{routeOf(0, 0), routeOf(65535, 16), {Addr: -1}}, list...) {
			want, _ := impl.RouteDrop(list, r.Addr, r.Bits)
			want = append([]impl.Route{}, want...)
			given := routesCopied(list)
			got, _ := impl.RouteDrop(given, r.Addr, r.Bits)
			routesAreKept(t, given, list)
			routesSpoiled(given)
			if !sameRoutes(got, want) {
				t.Fatal("the answer has memory of the routes", list, r, got)
			}
			given = routesCopied(list)
			got, _ = impl.RouteDrop(given, r.Addr, r.Bits)
			routesSpoiled(got)
			routesAreKept(t, given, list)
		}
	}
}

func TestChapter6RoutesThatAreNeededAreNewMemory(t *testing.T) {
	for _, list := range append(sampleLists(), badRouteLists()...) {
		want := append([]impl.Route{}, impl.RoutesLess(list)...)
		given := routesCopied(list)
		got := impl.RoutesLess(given)
		routesAreKept(t, given, list)
		routesSpoiled(given)
		if !sameRoutes(got, want) {
			t.Fatal("the answer has memory of the routes", list, got)
		}
		given = routesCopied(list)
		got = impl.RoutesLess(given)
		routesSpoiled(got)
		routesAreKept(t, given, list)
	}
}
