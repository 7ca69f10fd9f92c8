package tests

import (
	"testing"

	"loop.example/netstack/impl"
)

// addrEdges and linkEdges return numbers in range: both ends, what is next to them, and some between.
func addrEdges() []int {
	return []int{0, 1, 7, 254, 255, 256, 257, 4660, 32768, 65534, 65535}
}

func linkEdges() []int {
	return []int{0, 1, 5, 127, 128, 253, 254}
}

// noAddrs, noLinks, noKinds and noNearTimes return numbers out of range, also such as are in it in fewer bytes.
func noAddrs() []int {
	return []int{least, -65536, -65535, -256, -1, 65536, 65537, 65543, 131071, greatest}
}

func noLinks() []int {
	return []int{least, -256, -255, -1, 255, 256, 257, 261, 511, greatest}
}

func noKinds() []int {
	return []int{least, -2, -1, 0, 3, 4, 255, 256, 257, 258, greatest}
}

func noNearTimes() []int {
	return []int{least, -21, -20, -1, 999981, 999999, 1000000, 1000001, greatest}
}

// sampleQueries returns queries of both kinds with the ends of all ranges, and some between.
func sampleQueries() []impl.Query {
	out := []impl.Query{}
	for _, kind := range []int{impl.NearAsk, impl.NearTell} {
		for _, addr := range addrEdges() {
			for _, want := range addrEdges() {
				out = append(out, impl.Query{Kind: kind, Link: (addr + want) % 255, Addr: addr, Want: want})
			}
		}
		for _, link := range linkEdges() {
			out = append(out, impl.Query{Kind: kind, Link: link, Addr: 258, Want: 772})
		}
	}
	return out
}

// badQueries returns queries that are none: one thing is out of range, or all are.
func badQueries() []impl.Query {
	out := []impl.Query{{}, {Kind: -1, Link: -1, Addr: -1, Want: -1}, {Kind: 3, Link: 255, Addr: 65536, Want: 65536}}
	for _, v := range noKinds() {
		out = append(out, impl.Query{Kind: v, Link: 3, Addr: 1, Want: 7})
	}
	for _, kind := range []int{impl.NearAsk, impl.NearTell} {
		for _, v := range noLinks() {
			out = append(out, impl.Query{Kind: kind, Link: v, Addr: 1, Want: 7})
		}
		for _, v := range noAddrs() {
			out = append(out, impl.Query{Kind: kind, Link: 3, Addr: v, Want: 7})
			out = append(out, impl.Query{Kind: kind, Link: 3, Addr: 1, Want: v})
		}
	}
	return out
}

// entries returns what is known of addresses, of station 10 and those behind it, till 100 and the times behind it.
func entries(addrs ...int) []impl.NearEntry {
	out := []impl.NearEntry{}
	for i, addr := range addrs {
		out = append(out, impl.NearEntry{Addr: addr, Link: 10 + i, Until: 100 + i})
	}
	return out
}

// heldFor returns packets that are kept for addresses, each with other bytes, the first one with none.
func heldFor(addrs ...int) []impl.NearHeld {
	out := []impl.NearHeld{}
	for i, addr := range addrs {
		out = append(out, impl.NearHeld{Addr: addr, Data: mixedBytes(i+addr, i*5)})
	}
	return out
}

// sampleNears returns stations that know and keep from nothing to as much as they may.
func sampleNears() []impl.Near {
	knowns := [][]impl.NearEntry{
		nil,
		entries(7),
		entries(7, 8),
		entries(9, 7, 8),
		entries(1, 2, 3, 4),
		entries(4, 7, 9, 8),
		{{Addr: 0, Link: 0, Until: 0}, {Addr: 65535, Link: 254, Until: 1000000}},
		{{Addr: 7, Link: 3, Until: 0}, {Addr: 8, Link: 3, Until: 999999}, {Addr: 9, Link: 3, Until: 50}, {Addr: 0, Link: 254, Until: 1}},
	}
	helds := [][]impl.NearHeld{
		nil,
		heldFor(7),
		heldFor(8, 7),
		heldFor(7, 8, 7),
		heldFor(7, 7, 7, 7),
		heldFor(8, 7, 9, 7),
		heldFor(0, 65535, 1, 0),
		{{Addr: 7}, {Addr: 8, Data: filledBytes(255, impl.MaxFrame)}, {Addr: 7, Data: filledBytes(0, impl.MaxFrame)}},
	}
	out := []impl.Near{}
	for _, known := range knowns {
		for _, held := range helds {
			out = append(out, nearCopied(impl.Near{Known: known, Held: held}))
		}
	}
	return out
}

// badNears returns stations that are none: one thing is out of range, two entries are alike, or there is too much.
func badNears() []impl.Near {
	out := []impl.Near{
		{Known: entries(1, 2, 3, 4, 5)},
		{Known: entries(7, 7)},
		{Known: entries(7, 8, 9, 7)},
		{Known: entries(8, 7, 7)},
		{Known: entries(0, 0)},
		{Known: []impl.NearEntry{{Addr: 7, Link: 3, Until: 5}, {Addr: 7, Link: 3, Until: 5}}},
		{Held: heldFor(7, 7, 7, 7, 7)},
		{Held: heldFor(1, 2, 3, 4, 5, 6, 7)},
		{Known: entries(1, 2, 3, 4), Held: heldFor(1, 2, 3, 4, 5)},
	}
	for _, v := range noAddrs() {
		out = append(out, impl.Near{Known: entries(v)})
		out = append(out, impl.Near{Known: entries(1, 7, v)})
		out = append(out, impl.Near{Known: entries(v, 7)})
		out = append(out, impl.Near{Held: []impl.NearHeld{{Addr: v}}})
		out = append(out, impl.Near{Known: entries(7), Held: []impl.NearHeld{{Addr: 7}, {Addr: v}}})
	}
	for _, v := range noLinks() {
		out = append(out, impl.Near{Known: []impl.NearEntry{{Addr: 7, Link: v, Until: 5}}})
		out = append(out, impl.Near{Known: []impl.NearEntry{{Addr: 7, Link: 3, Until: 5}, {Addr: 8, Link: v, Until: 5}}})
	}
	for _, v := range []int{least, -20, -1, 1000001, 1000020, greatest} {
		out = append(out, impl.Near{Known: []impl.NearEntry{{Addr: 7, Link: 3, Until: v}}})
		out = append(out, impl.Near{Known: []impl.NearEntry{{Addr: 7, Link: 3, Until: 5}, {Addr: 8, Link: 3, Until: v}}})
	}
	for _, many := range []int{65, 66, 128, 256, 300, 65536} {
		out = append(out, impl.Near{Held: []impl.NearHeld{{Addr: 7, Data: filledBytes(1, many)}}})
		out = append(out, impl.Near{Known: entries(7), Held: []impl.NearHeld{{Addr: 7}, {Addr: 7, Data: filledBytes(1, many)}}})
	}
	return out
}

// entriesCopied and heldCopied return the same ones in new memory, with room behind them that is filled, so that what is written there would be seen (roomIsKept).
func entriesCopied(known []impl.NearEntry) []impl.NearEntry {
	out := append([]impl.NearEntry{}, known...)
	return append(out, entryMark(), entryMark())[:len(known)]
}

func heldCopied(held []impl.NearHeld) []impl.NearHeld {
	out := []impl.NearHeld{}
	for _, h := range held {
		room := joined(h.Data, filledBytes(9, 80))
		out = append(out, impl.NearHeld{Addr: h.Addr, Data: room[:len(h.Data)]})
	}
	return append(out, heldMark(), heldMark())[:len(held)]
}

// entryMark and heldMark are what stands in the room behind the lists that are handed in.
func entryMark() impl.NearEntry {
	return impl.NearEntry{Addr: 99, Link: 99, Until: 99}
}

func heldMark() impl.NearHeld {
	return impl.NearHeld{Addr: 99, Data: []byte{9, 9}}
}

// nearCopied returns the same station in new memory.
func nearCopied(n impl.Near) impl.Near {
	return impl.Near{Known: entriesCopied(n.Known), Held: heldCopied(n.Held)}
}

// roomIsKept fails if something was written behind the lists of a station (nearCopied).
func roomIsKept(t *testing.T, n impl.Near) {
	t.Helper()
	for _, e := range n.Known[:len(n.Known)+2][len(n.Known):] {
		if e != entryMark() {
			t.Fatal("behind what is known", n, e)
		}
	}
	if !sameHeld(n.Held[:len(n.Held)+2][len(n.Held):], []impl.NearHeld{heldMark(), heldMark()}) {
		t.Fatal("behind what is kept", n)
	}
	for _, h := range n.Held {
		if !sameBytes(h.Data[:len(h.Data)+80][len(h.Data):], filledBytes(9, 80)) {
			t.Fatal("behind bytes that are kept", n)
		}
	}
}

// sameEntries, sameHeld, sameNear and sameSent report whether both are the same; none are the same as nil.
func sameEntries(a []impl.NearEntry, b []impl.NearEntry) bool {
	if len(a) != len(b) {
		return false
	}
	for i := range a {
		if a[i] != b[i] {
			return false
		}
	}
	return true
}

func sameHeld(a []impl.NearHeld, b []impl.NearHeld) bool {
	if len(a) != len(b) {
		return false
	}
	for i := range a {
		if a[i].Addr != b[i].Addr || !sameBytes(a[i].Data, b[i].Data) {
			return false
		}
	}
	return true
}

func sameNear(a impl.Near, b impl.Near) bool {
	return sameEntries(a.Known, b.Known) && sameHeld(a.Held, b.Held)
}

func sameSent(a [][]byte, b [][]byte) bool {
	if len(a) != len(b) {
		return false
	}
	for i := range a {
		if !sameBytes(a[i], b[i]) {
			return false
		}
	}
	return true
}

// sendIs fails unless a station becomes want, and tells a station, when it wants to send.
func sendIs(t *testing.T, n impl.Near, addr int, data []byte, now int, want impl.Near, link int) {
	t.Helper()
	got, to := impl.NearSend(n, addr, data, now)
	if !sameNear(got, want) || to != link {
		t.Fatal(n, addr, data, now, "got", got, to, "want", want, link)
	}
}

// hearIs fails unless a station becomes want, and can send this, when it hears a query.
func hearIs(t *testing.T, n impl.Near, own int, q impl.Query, now int, want impl.Near, sent [][]byte) {
	t.Helper()
	got, out := impl.NearHear(n, own, q, now)
	if !sameNear(got, want) || !sameSent(out, sent) {
		t.Fatal(n, own, q, now, "got", got, out, "want", want, sent)
	}
}

// queryIsRead fails unless bytes are the query.
func queryIsRead(t *testing.T, b []byte, want impl.Query) {
	t.Helper()
	if q, ok := impl.QueryFrom(b); !ok || q != want {
		t.Fatal(b, q, ok, want)
	}
}

// isNoQuery fails if bytes are a query, or if what stands beside false is not nothing.
func isNoQuery(t *testing.T, b []byte) {
	t.Helper()
	if q, ok := impl.QueryFrom(b); ok || q != (impl.Query{}) {
		t.Fatal(b, q, ok)
	}
}

// queryBytesAre fails unless a query has the bytes want, and these are it.
func queryBytesAre(t *testing.T, q impl.Query, want []byte) {
	t.Helper()
	if got := impl.QueryBytes(q); !sameBytes(got, want) {
		t.Fatal(q, got, want)
	}
	queryIsRead(t, want, q)
}

func TestP8KnownQueriesAsBytes(t *testing.T) {
	queryBytesAre(t, impl.Query{Kind: impl.NearAsk, Link: 3, Addr: 1, Want: 7}, []byte{1, 3, 0, 1, 0, 7})
	queryBytesAre(t, impl.Query{Kind: impl.NearTell, Link: 254, Addr: 772, Want: 258}, []byte{2, 254, 3, 4, 1, 2})
	queryBytesAre(t, impl.Query{Kind: impl.NearAsk}, []byte{1, 0, 0, 0, 0, 0})
	queryBytesAre(t, impl.Query{Kind: impl.NearTell, Addr: 65535, Want: 65280}, []byte{2, 0, 255, 255, 255, 0})
}

func TestP8QueriesCanBeReadBack(t *testing.T) {
	for _, q := range sampleQueries() {
		b := impl.QueryBytes(q)
		if len(b) != 6 {
			t.Fatal(q, b)
		}
		queryIsRead(t, b, q)
		queryBytesAre(t, q, []byte{byte(q.Kind), byte(q.Link), byte(q.Addr / 256), byte(q.Addr % 256), byte(q.Want / 256), byte(q.Want % 256)})
	}
}

func TestP8InvalidQueriesHaveNoBytes(t *testing.T) {
	for _, q := range badQueries() {
		if b := impl.QueryBytes(q); len(b) != 0 {
			t.Fatal(q, b)
		}
	}
}

func TestP9WhatIsReadWasAsked(t *testing.T) {
	for kind := 0; kind <= 255; kind++ {
		for link := 0; link <= 255; link++ {
			b := joined([]byte{byte(kind), byte(link)}, mixedBytes(kind*256+link, 4))
			q, ok := impl.QueryFrom(b)
			if ok != ((kind == 1 || kind == 2) && link < 255) {
				t.Fatal(b, q, ok)
			}
			if !ok {
				isNoQuery(t, b)
			} else if !impl.QueryOk(q) || !sameBytes(impl.QueryBytes(q), b) {
				t.Fatal(b, q)
			}
		}
	}
}

func TestP9AByteLessOrMoreIsNoQuery(t *testing.T) {
	for _, q := range sampleQueries() {
		b := impl.QueryBytes(q)
		for n := 0; n < len(b); n++ {
			isNoQuery(t, b[:n])
			isNoQuery(t, b[len(b)-n:])
			isNoQuery(t, joined(b[:n], b[n+1:]))
		}
		for x := 0; x <= 255; x++ {
			isNoQuery(t, joined(b, []byte{byte(x)}))
			isNoQuery(t, joined([]byte{byte(x)}, b))
		}
		isNoQuery(t, joined(b, b))
	}
	isNoQuery(t, nil)
	isNoQuery(t, filledBytes(1, 100000))
}

func TestP98KnownQueries(t *testing.T) {
	queryOkIs(t, impl.Query{Kind: 1, Link: 3, Addr: 1, Want: 7}, true)
	queryOkIs(t, impl.Query{Kind: 2, Link: 254, Addr: 65535, Want: 65535}, true)
	queryOkIs(t, impl.Query{Kind: 1}, true)
	queryOkIs(t, impl.Query{Kind: 2, Link: 5, Addr: 7, Want: 7}, true)
	queryOkIs(t, impl.Query{}, false)
	queryOkIs(t, impl.Query{Kind: 3}, false)
	queryOkIs(t, impl.Query{Kind: 1, Link: 255}, false)
	for _, q := range sampleQueries() {
		queryOkIs(t, q, true)
	}
}

// queryOkIs fails unless QueryOk tells what is wanted of a query.
func queryOkIs(t *testing.T, q impl.Query, want bool) {
	t.Helper()
	if got := impl.QueryOk(q); got != want {
		t.Fatal(q, got)
	}
}

func TestP98WhoMayAskMayTell(t *testing.T) {
	for _, q := range joinedQueries(sampleQueries(), badQueries()) {
		if q.Kind == impl.NearAsk || q.Kind == impl.NearTell {
			other := q
			other.Kind = impl.NearAsk + impl.NearTell - q.Kind
			queryOkIs(t, other, impl.QueryOk(q))
		}
	}
}

// joinedQueries returns the queries of a and those of b behind them, in new memory.
func joinedQueries(a []impl.Query, b []impl.Query) []impl.Query {
	return append(append([]impl.Query{}, a...), b...)
}

func TestP98NoneAsksForAnAddressBelow0(t *testing.T) {
	for _, q := range sampleQueries() {
		for _, v := range []int{least, -65536, -7, -1} {
			q.Want = v
			queryOkIs(t, q, false)
		}
	}
}

func TestP98InvalidQueriesAreNotOk(t *testing.T) {
	for _, q := range badQueries() {
		queryOkIs(t, q, false)
	}
}

// nearOkIs fails unless NearOk tells what is wanted of a station.
func nearOkIs(t *testing.T, n impl.Near, want bool) {
	t.Helper()
	if got := impl.NearOk(n); got != want {
		t.Fatal(n, got)
	}
}

func TestP99StationsInRangeAreOk(t *testing.T) {
	for _, n := range sampleNears() {
		nearOkIs(t, n, true)
	}
	nearOkIs(t, impl.Near{Known: entries(1, 2, 3, 4), Held: heldFor(1, 1, 1, 1)}, true)
	nearOkIs(t, impl.Near{Known: []impl.NearEntry{{Addr: 65535, Link: 254, Until: 1000000}}}, true)
	nearOkIs(t, impl.Near{Held: []impl.NearHeld{{Addr: 65535, Data: filledBytes(255, 64)}}}, true)
	// One station may have many addresses, and what is known may also be kept for.
	nearOkIs(t, impl.Near{Known: []impl.NearEntry{{Addr: 1, Link: 3}, {Addr: 2, Link: 3}}, Held: heldFor(1)}, true)
}

func TestP99WhoKnowsAndKeepsNothingIsAStation(t *testing.T) {
	nearOkIs(t, impl.Near{}, true)
	nearOkIs(t, impl.Near{Known: []impl.NearEntry{}, Held: []impl.NearHeld{}}, true)
}

func TestP99WhoKnowsAndKeepsLessIsAStation(t *testing.T) {
	for _, n := range sampleNears() {
		nearOkIs(t, impl.Near{Known: n.Known}, true)
		nearOkIs(t, impl.Near{Held: n.Held}, true)
		for i := range n.Known {
			nearOkIs(t, impl.Near{Known: n.Known[i:], Held: n.Held}, true)
			nearOkIs(t, impl.Near{Known: n.Known[:i], Held: n.Held}, true)
		}
		for i := range n.Held {
			nearOkIs(t, impl.Near{Known: n.Known, Held: n.Held[i:]}, true)
			nearOkIs(t, impl.Near{Known: n.Known, Held: n.Held[:i]}, true)
		}
	}
}

func TestP99InvalidStationsAreNotOk(t *testing.T) {
	for _, n := range badNears() {
		nearOkIs(t, n, false)
	}
	for many := 0; many <= 9; many++ {
		addrs := []int{1, 2, 3, 4, 5, 6, 7, 8, 9}[:many]
		nearOkIs(t, impl.Near{Known: entries(addrs...)}, many <= 4)
		nearOkIs(t, impl.Near{Held: heldFor(addrs...)}, many <= 4)
	}
	for many := 0; many <= 300; many++ {
		nearOkIs(t, impl.Near{Held: []impl.NearHeld{{Addr: 7}, {Addr: 7, Data: filledBytes(0, many)}}}, many <= 64)
	}
}

// findIs fails unless the station that has an address at a time is the one that is wanted.
func findIs(t *testing.T, n impl.Near, addr int, now int, want int) {
	t.Helper()
	if got := impl.NearFind(n, addr, now); got != want {
		t.Fatal(n, addr, now, got, want)
	}
}

func TestP100KnownAddresses(t *testing.T) {
	n := impl.Near{Known: []impl.NearEntry{{Addr: 7, Link: 5, Until: 30}, {Addr: 8, Link: 0, Until: 40}, {Addr: 9, Link: 254, Until: 0}}}
	findIs(t, n, 7, 0, 5)
	findIs(t, n, 7, 29, 5)
	findIs(t, n, 7, 30, -1)
	findIs(t, n, 7, 31, -1)
	findIs(t, n, 8, 39, 0)
	findIs(t, n, 8, 40, -1)
	findIs(t, n, 9, 0, -1)
	findIs(t, n, 9, -1, 254)
	findIs(t, n, 6, 0, -1)
	findIs(t, impl.Near{}, 7, 0, -1)
	findIs(t, impl.Near{Held: heldFor(7)}, 7, 0, -1)
}

func TestP100WhatIsKnownIsKnownTillItsTime(t *testing.T) {
	for _, n := range sampleNears() {
		for _, e := range n.Known {
			for _, now := range []int{least, -1000000, -1, 0, e.Until - 1} {
				if now < e.Until {
					findIs(t, n, e.Addr, now, e.Link)
				}
			}
			for _, now := range []int{e.Until, e.Until + 1, e.Until + 20, 1000000, 1000001, greatest} {
				findIs(t, n, e.Addr, now, -1)
			}
		}
	}
}

func TestP100WhatIsKnownIsKnownAhead(t *testing.T) {
	for _, n := range sampleNears() {
		for _, addr := range addrEdges() {
			for now := 120; now >= -5; now-- {
				if link := impl.NearFind(n, addr, now); link >= 0 {
					findIs(t, n, addr, now-1, link)
					findIs(t, n, addr, now-100, link)
					findIs(t, n, addr, least, link)
				}
			}
			findIs(t, n, addr, 1000000, -1)
		}
	}
}

func TestP100WhatIsLearnedIsKnownForItsTime(t *testing.T) {
	for _, now := range []int{0, 1, 10, 500000, 999979, 999980} {
		n, _ := impl.NearHear(impl.Near{}, 1, impl.Query{Kind: impl.NearAsk, Link: 5, Addr: 7, Want: 1}, now)
		for later := now - 1; later <= now+25; later++ {
			if later < now+20 {
				findIs(t, n, 7, later, 5)
			} else {
				findIs(t, n, 7, later, -1)
			}
		}
	}
}

func TestP100NobodyHasAnAddressThatIsNone(t *testing.T) {
	for _, n := range sampleNears() {
		for _, addr := range noAddrs() {
			findIs(t, n, addr, 0, -1)
			findIs(t, n, addr, least, -1)
		}
	}
	for _, n := range badNears() {
		for _, addr := range joinedNumbers(addrEdges(), noAddrs()) {
			findIs(t, n, addr, 0, -1)
			findIs(t, n, addr, least, -1)
		}
	}
}

// joinedNumbers returns the numbers of a and those of b behind them, in new memory.
func joinedNumbers(a []int, b []int) []int {
	return append(append([]int{}, a...), b...)
}

func TestP10WhatIsNotKnownIsKept(t *testing.T) {
	one := []impl.NearHeld{{Addr: 7, Data: []byte("a")}}
	two := append(one, impl.NearHeld{Addr: 8, Data: []byte("b")})
	sendIs(t, impl.Near{}, 7, []byte("a"), 0, impl.Near{Held: one}, -1)
	sendIs(t, impl.Near{Held: one}, 8, []byte("b"), 999980, impl.Near{Held: two}, -1)
	sendIs(t, impl.Near{}, 0, nil, 5, impl.Near{Held: []impl.NearHeld{{}}}, -1)
	sendIs(t, impl.Near{}, 65535, filledBytes(3, 64), 5, impl.Near{Held: []impl.NearHeld{{Addr: 65535, Data: filledBytes(3, 64)}}}, -1)
	sendIs(t, impl.Near{Known: entries(8, 9)}, 7, []byte("a"), 5, impl.Near{Known: entries(8, 9), Held: one}, -1)
}

func TestP10WhatIsKnownIsSentAtOnce(t *testing.T) {
	n := impl.Near{Known: entries(8, 7), Held: heldFor(7, 8, 7, 9)}
	sendIs(t, n, 7, []byte("x"), 100, n, 11)
	sendIs(t, n, 8, []byte("x"), 99, n, 10)
	sendIs(t, n, 7, nil, 0, n, 11)
	zero := impl.Near{Known: []impl.NearEntry{{Addr: 0, Link: 0, Until: 1}}}
	sendIs(t, zero, 0, []byte("x"), 0, zero, 0)
}

func TestP10WhatWasKnownTooLongIsKeptFor(t *testing.T) {
	n := impl.Near{Known: entries(7, 8)}
	kept := impl.Near{Known: entries(7, 8), Held: []impl.NearHeld{{Addr: 7, Data: []byte("x")}}}
	sendIs(t, n, 7, []byte("x"), 99, n, 10)
	sendIs(t, n, 7, []byte("x"), 100, kept, -1)
	sendIs(t, n, 7, []byte("x"), 101, kept, -1)
	sendIs(t, n, 7, []byte("x"), 999980, kept, -1)
}

func TestP10TheFirstOneGoesIfThereAreTooMany(t *testing.T) {
	last := impl.NearHeld{Addr: 5, Data: []byte("last")}
	all := heldFor(9, 7, 5, 7)
	for many := 0; many <= 4; many++ {
		want := append(heldCopied(all[:many]), last)
		if many == 4 {
			want = want[1:]
		}
		sendIs(t, impl.Near{Held: all[:many]}, 5, []byte("last"), 3, impl.Near{Held: want}, -1)
	}
}

func TestP10ManyArePutOneBehindTheOther(t *testing.T) {
	n := impl.Near{}
	all := []impl.NearHeld{}
	for i := 0; i < 30; i++ {
		h := impl.NearHeld{Addr: 7 + i%3, Data: mixedBytes(i, i)}
		all = append(all, h)
		from := len(all) - 4
		if from < 0 {
			from = 0
		}
		sendIs(t, n, h.Addr, h.Data, i, impl.Near{Held: all[from:]}, -1)
		n, _ = impl.NearSend(n, h.Addr, h.Data, i)
	}
}

func TestP10WhatCannotBeSentYetIsKept(t *testing.T) {
	for _, n := range sampleNears() {
		for _, addr := range addrEdges() {
			for _, now := range []int{0, 1, 49, 50, 99, 100, 101, 103, 104, 999979, 999980} {
				data := mixedBytes(addr+now, (addr+now)%65)
				link := impl.NearFind(n, addr, now)
				want := nearCopied(n)
				if link < 0 {
					want.Held = append(want.Held, impl.NearHeld{Addr: addr, Data: data})
				}
				if len(want.Held) > 4 {
					want.Held = want.Held[1:]
				}
				nearOkIs(t, want, true)
				sendIs(t, n, addr, data, now, want, link)
			}
		}
	}
}

func TestP10InvalidSendsAreNothing(t *testing.T) {
	for _, n := range badNears() {
		sendIs(t, n, 7, []byte("a"), 0, impl.Near{}, -1)
		sendIs(t, n, 6, nil, 999980, impl.Near{}, -1)
	}
	for _, n := range sampleNears() {
		for _, addr := range noAddrs() {
			sendIs(t, n, addr, []byte("a"), 0, impl.Near{}, -1)
		}
		for _, now := range noNearTimes() {
			sendIs(t, n, 7, []byte("a"), now, impl.Near{}, -1)
			sendIs(t, n, 6, nil, now, impl.Near{}, -1)
		}
		for _, many := range []int{65, 66, 128, 256, 65536} {
			// Also where the address is known, and nothing would be kept.
			sendIs(t, n, 7, filledBytes(1, many), 0, impl.Near{}, -1)
			sendIs(t, n, 6, filledBytes(1, many), 0, impl.Near{}, -1)
		}
	}
}

// tell returns what a station with a link and an address tells to another address.
func tell(link int, addr int, to int) impl.Query {
	return impl.Query{Kind: impl.NearTell, Link: link, Addr: addr, Want: to}
}

// ask returns what a station with a link and an address asks.
func ask(link int, addr int, want int) impl.Query {
	return impl.Query{Kind: impl.NearAsk, Link: link, Addr: addr, Want: want}
}

func TestP11WhatWasKeptIsSent(t *testing.T) {
	n := impl.Near{Held: []impl.NearHeld{
		{Addr: 7, Data: []byte("a")},
		{Addr: 8, Data: []byte("b")},
		{Addr: 7},
		{Addr: 7, Data: []byte("c")},
	}}
	want := impl.Near{Known: []impl.NearEntry{{Addr: 7, Link: 5, Until: 30}}, Held: n.Held[1:2]}
	sent := [][]byte{[]byte("a"), nil, []byte("c")}
	// Whom the answer is told does not matter where something is kept for its address, nor whether it is one.
	hearIs(t, n, 1, tell(5, 7, 1), 10, want, sent)
	hearIs(t, n, 1, tell(5, 7, 2), 10, want, sent)
	hearIs(t, n, 1, ask(5, 7, 2), 10, want, sent)
	hearIs(t, want, 1, tell(5, 7, 1), 10, want, nil)
	findIs(t, want, 7, 29, 5)
	findIs(t, want, 7, 30, -1)
}

func TestP11WhatNobodyAskedForTurnsNothing(t *testing.T) {
	for _, n := range []impl.Near{{}, {Known: entries(8, 9)}, {Held: heldFor(8, 9)}, {Known: entries(1, 2, 3, 4), Held: heldFor(1, 2, 3, 4)}} {
		for _, now := range []int{0, 10, 999980} {
			hearIs(t, n, 6, tell(5, 7, 8), now, n, nil)
			hearIs(t, n, 6, ask(5, 7, 8), now, n, nil)
			hearIs(t, n, 6, tell(5, 7, 7), now, n, nil)
			// The station that speaks of its own address is not one that wants it.
			hearIs(t, n, 6, tell(5, 6, 7), now, n, nil)
			hearIs(t, n, 7, tell(5, 7, 6), now, n, nil)
		}
	}
}

func TestP11WhoWantsTheStationIsKnown(t *testing.T) {
	for _, own := range addrEdges() {
		n := impl.Near{Known: entries(2, 3)}
		want := impl.Near{Known: append(entries(2, 3), impl.NearEntry{Addr: 70, Link: 5, Until: 30})}
		hearIs(t, n, own, ask(5, 70, own), 10, want, nil)
		hearIs(t, n, own, tell(5, 70, own), 10, want, nil)
		hearIs(t, n, own, ask(5, 70, (own+1)%65536), 10, n, nil)
		hearIs(t, n, own, tell(5, 70, (own+1)%65536), 10, n, nil)
	}
}

func TestP11AStationWithoutAnAddressIsNotWanted(t *testing.T) {
	for _, own := range noAddrs() {
		n := impl.Near{Known: entries(2, 3), Held: heldFor(8)}
		for _, want := range addrEdges() {
			hearIs(t, n, own, ask(5, 70, want), 10, n, nil)
		}
		learned := impl.Near{Known: append(entries(2, 3), impl.NearEntry{Addr: 8, Link: 5, Until: 30})}
		hearIs(t, n, own, tell(5, 8, 1), 10, learned, [][]byte{n.Held[0].Data})
	}
}

func TestP11AnAddressThatMovedIsKnownOfItsNewStation(t *testing.T) {
	n := impl.Near{Known: entries(7, 8, 9), Held: heldFor(8)}
	want := impl.Near{Known: []impl.NearEntry{n.Known[1], n.Known[2], {Addr: 7, Link: 200, Until: 60}}, Held: n.Held}
	hearIs(t, n, 1, tell(200, 7, 2), 40, want, nil)
	hearIs(t, n, 1, ask(200, 7, 2), 40, want, nil)
	// Also to what it was: its time is the new one, even where that is less.
	same := impl.Near{Known: []impl.NearEntry{n.Known[0], n.Known[2], {Addr: 8, Link: 11, Until: 20}}}
	hearIs(t, n, 1, tell(11, 8, 2), 0, same, [][]byte{n.Held[0].Data})
}

func TestP11WhatWasKnownTooLongIsKnownAnew(t *testing.T) {
	n := impl.Near{Known: entries(7, 8)}
	for _, now := range []int{99, 100, 101, 999980} {
		want := impl.Near{Known: []impl.NearEntry{n.Known[1], {Addr: 7, Link: 200, Until: now + 20}}}
		hearIs(t, n, 1, tell(200, 7, 2), now, want, nil)
	}
}

func TestP11TheOldestOneGoesIfThereAreTooMany(t *testing.T) {
	all := entries(7, 6, 5, 4)
	// The oldest one is the first one, whatever its time is.
	all[0].Until = 1000000
	for many := 0; many <= 4; many++ {
		want := append(entriesCopied(all[:many]), impl.NearEntry{Addr: 8, Link: 5, Until: 20})
		if many == 4 {
			want = want[1:]
		}
		hearIs(t, impl.Near{Known: all[:many]}, 1, ask(5, 8, 1), 0, impl.Near{Known: want}, nil)
	}
}

func TestP11NoneGoesForOneThatWasKnown(t *testing.T) {
	all := entries(7, 6, 5, 4)
	for at, e := range all {
		want := append(entriesCopied(all[:at]), all[at+1:]...)
		want = append(want, impl.NearEntry{Addr: e.Addr, Link: 99, Until: 33})
		hearIs(t, impl.Near{Known: all}, 1, tell(99, e.Addr, 2), 13, impl.Near{Known: want}, nil)
	}
}

// heard returns what a station becomes by a query, and what it can send, by the definition: first each of the three reasons, then entry by entry.
func heard(n impl.Near, own int, q impl.Query, now int) (impl.Near, [][]byte) {
	learns := q.Want == own
	known := []impl.NearEntry{}
	for _, e := range n.Known {
		if e.Addr == q.Addr {
			learns = true
		} else {
			known = append(known, e)
		}
	}
	held := []impl.NearHeld{}
	sent := [][]byte{}
	for _, h := range n.Held {
		if h.Addr == q.Addr {
			learns = true
			sent = append(sent, h.Data)
		} else {
			held = append(held, h)
		}
	}
	if !learns {
		return n, nil
	}
	known = append(known, impl.NearEntry{Addr: q.Addr, Link: q.Link, Until: now + 20})
	for len(known) > 4 {
		known = known[1:]
	}
	return impl.Near{Known: known, Held: held}, sent
}

func TestP11WhatWasKeptIsSentOnceInOrder(t *testing.T) {
	for _, n := range sampleNears() {
		for _, q := range sampleQueries() {
			for _, own := range []int{0, 1, 7, 65535, -1} {
				for _, now := range []int{0, 50, 100, 999980} {
					want, sent := heard(n, own, q, now)
					nearOkIs(t, want, true)
					hearIs(t, n, own, q, now, want, sent)
					keptIsSent(t, n, own, q, now)
				}
			}
		}
	}
}

// keptIsSent fails unless an address is known by a query if something was kept for it, and nothing is sent a second time.
func keptIsSent(t *testing.T, n impl.Near, own int, q impl.Query, now int) {
	t.Helper()
	after, sent := impl.NearHear(n, own, q, now)
	if len(sent) > 0 {
		findIs(t, after, q.Addr, now, q.Link)
		findIs(t, after, q.Addr, now+19, q.Link)
		findIs(t, after, q.Addr, now+20, -1)
	}
	hearIs(t, after, own, q, now, after, nil)
	if len(after.Held)+len(sent) != len(n.Held) {
		t.Fatal("lost or doubled", n, q, after, sent)
	}
}

func TestP11WhateverIsHeardAStationStaysOne(t *testing.T) {
	n := impl.Near{}
	for i := 0; i < 5000; i++ {
		x := mixedBytes(i, 6)
		addr := int(x[0]) % 9
		if x[1] < 90 {
			want := nearCopied(n)
			link := impl.NearFind(n, addr, i)
			if link < 0 {
				want.Held = append(want.Held, impl.NearHeld{Addr: addr, Data: x})
			}
			if len(want.Held) > 4 {
				want.Held = want.Held[1:]
			}
			sendIs(t, n, addr, x, i, want, link)
			n, _ = impl.NearSend(n, addr, x, i)
		} else {
			q := impl.Query{Kind: 1 + int(x[2])%2, Link: int(x[3]) % 255, Addr: addr, Want: int(x[4]) % 9}
			want, sent := heard(n, 3, q, i)
			hearIs(t, n, 3, q, i, want, sent)
			n, _ = impl.NearHear(n, 3, q, i)
		}
		nearOkIs(t, n, true)
	}
}

func TestP11InvalidQueriesAreNotHeard(t *testing.T) {
	for _, n := range badNears() {
		hearIs(t, n, 1, tell(5, 7, 1), 0, impl.Near{}, nil)
		hearIs(t, n, 1, ask(5, 6, 2), 999980, impl.Near{}, nil)
	}
	for _, n := range sampleNears() {
		for _, q := range badQueries() {
			hearIs(t, n, 1, q, 0, impl.Near{}, nil)
			hearIs(t, n, q.Want, q, 0, impl.Near{}, nil)
		}
		for _, now := range noNearTimes() {
			hearIs(t, n, 1, tell(5, 7, 1), now, impl.Near{}, nil)
			hearIs(t, n, 1, ask(5, 6, 2), now, impl.Near{}, nil)
		}
	}
}

// tellsNothing fails if a station answers a query, or if what stands beside false is not nothing.
func tellsNothing(t *testing.T, link int, addr int, q impl.Query) {
	t.Helper()
	if a, ok := impl.NearTells(link, addr, q); ok || a != (impl.Query{}) {
		t.Fatal(link, addr, q, a, ok)
	}
}

func TestP101WhoIsAskedAnswers(t *testing.T) {
	for _, q := range sampleQueries() {
		for _, link := range linkEdges() {
			if q.Kind != impl.NearAsk {
				tellsNothing(t, link, q.Want, q)
				continue
			}
			a, ok := impl.NearTells(link, q.Want, q)
			if !ok || a != tell(link, q.Want, q.Addr) {
				t.Fatal(link, q, a, ok)
			}
		}
	}
}

func TestP101WhoIsNotAskedAnswersNothing(t *testing.T) {
	for _, q := range sampleQueries() {
		for _, addr := range joinedNumbers(addrEdges(), noAddrs()) {
			if addr != q.Want {
				tellsNothing(t, 5, addr, q)
				tellsNothing(t, q.Link, addr, q)
			}
		}
	}
}

func TestP101AnAnswerIsNotAnswered(t *testing.T) {
	for _, q := range sampleQueries() {
		a, ok := impl.NearTells(5, q.Want, q)
		if !ok {
			continue
		}
		for _, link := range linkEdges() {
			for _, addr := range []int{a.Addr, a.Want, 0, 7, 65535} {
				tellsNothing(t, link, addr, a)
			}
		}
	}
}

func TestP101InvalidQueriesAreNotAnswered(t *testing.T) {
	for _, q := range badQueries() {
		tellsNothing(t, 5, q.Want, q)
		tellsNothing(t, 5, 7, q)
	}
	for _, q := range sampleQueries() {
		for _, link := range noLinks() {
			tellsNothing(t, link, q.Want, q)
		}
	}
}

func TestP101TheAnswerSendsWhatWasKept(t *testing.T) {
	n, _ := impl.NearSend(impl.Near{}, 7, []byte("a"), 0)
	n, _ = impl.NearSend(n, 7, []byte("b"), 1)
	q, _ := impl.QueryFrom(impl.QueryBytes(ask(3, 1, 7)))
	a, ok := impl.NearTells(5, 7, q)
	if !ok {
		t.Fatal(a)
	}
	want := impl.Near{Known: []impl.NearEntry{{Addr: 7, Link: 5, Until: 22}}}
	hearIs(t, n, 1, a, 2, want, [][]byte{[]byte("a"), []byte("b")})
}

func TestChapter3WritesNoArguments(t *testing.T) {
	for _, n := range sampleNears() {
		was := nearCopied(n)
		room := joined([]byte("new"), filledBytes(9, 80))
		for _, addr := range []int{0, 7, 8, 65535} {
			impl.NearOk(n)
			impl.NearFind(n, addr, 50)
			impl.NearSend(n, addr, room[:3], 50)
			impl.NearHear(n, 1, tell(5, addr, 1), 50)
			impl.NearHear(n, 1, ask(5, addr, 2), 50)
			if !sameNear(n, was) || !sameBytes(room, joined([]byte("new"), filledBytes(9, 80))) {
				t.Fatal(was, n, room)
			}
			roomIsKept(t, n)
		}
	}
	for _, q := range sampleQueries() {
		b := joined(impl.QueryBytes(q), filledBytes(9, 20))
		was := copied(b)
		impl.QueryFrom(b[:6])
		if !sameBytes(b, was) {
			t.Fatal(q, b)
		}
	}
}

// nearSpoiled turns all that a station knows and keeps, and fills the room behind each of its lists.
func nearSpoiled(n impl.Near) {
	for i := range n.Known {
		n.Known[i] = impl.NearEntry{Addr: 98, Link: 98, Until: 98}
	}
	for i := range n.Held {
		n.Held[i].Addr = 98
		bytesSpoiled(n.Held[i].Data)
	}
	for i := 0; i < 8; i++ {
		n.Known = append(n.Known, impl.NearEntry{Addr: 97})
		n.Held = append(n.Held, impl.NearHeld{Addr: 97})
	}
}

// bytesSpoiled turns bytes, and fills the room behind them.
func bytesSpoiled(b []byte) {
	for i := range b {
		b[i] ^= 255
	}
	for i := 0; i < 100; i++ {
		b = append(b, 77)
	}
}

func TestChapter3AnswersOfSendingAreNewMemory(t *testing.T) {
	for _, n := range sampleNears() {
		for _, addr := range []int{0, 7, 8, 65535} {
			given := nearCopied(n)
			data := []byte("new")
			got, _ := impl.NearSend(given, addr, data, 50)
			want, _ := impl.NearSend(n, addr, []byte("new"), 50)
			bytesSpoiled(data)
			nearSpoiled(given)
			if !sameNear(got, want) {
				t.Fatal("the answer has memory of an argument", n, addr, got, want)
			}
			given = nearCopied(n)
			data = []byte("new")
			got, _ = impl.NearSend(given, addr, data, 50)
			nearSpoiled(got)
			if !sameNear(given, n) || !sameBytes(data, []byte("new")) {
				t.Fatal("an argument has memory of the answer", n, addr, given, data)
			}
			roomIsKept(t, given)
		}
	}
}

func TestChapter3AnswersOfHearingAreNewMemory(t *testing.T) {
	for _, n := range sampleNears() {
		for _, q := range []impl.Query{tell(5, 7, 1), ask(5, 8, 2), tell(5, 0, 2), ask(5, 65535, 1), tell(5, 66, 2)} {
			given := nearCopied(n)
			want, wantSent := impl.NearHear(n, 1, q, 50)
			got, sent := impl.NearHear(given, 1, q, 50)
			nearSpoiled(given)
			if !sameNear(got, want) || !sameSent(sent, wantSent) {
				t.Fatal("the answers have memory of an argument", n, q, got, sent)
			}
			nearSpoiled(got)
			if !sameSent(sent, wantSent) {
				t.Fatal("what can be sent has memory of the station", n, q, sent)
			}
			given = nearCopied(n)
			got, sent = impl.NearHear(given, 1, q, 50)
			for i := range sent {
				bytesSpoiled(sent[i])
				if !sameSent(sent[i+1:], wantSent[i+1:]) {
					t.Fatal("what can be sent shares memory", n, q, sent)
				}
			}
			if !sameNear(got, want) || !sameNear(given, n) {
				t.Fatal("a station has memory of what can be sent", n, q, got, given)
			}
			nearSpoiled(got)
			if !sameNear(given, n) {
				t.Fatal("an argument has memory of the answer", n, q, given)
			}
			roomIsKept(t, given)
		}
	}
}

func TestChapter3BytesOfQueriesAreNewMemory(t *testing.T) {
	for _, q := range sampleQueries() {
		first := impl.QueryBytes(q)
		second := impl.QueryBytes(q)
		was := copied(second)
		bytesSpoiled(first)
		if !sameBytes(second, was) || !sameBytes(impl.QueryBytes(q), was) {
			t.Fatal(q, second)
		}
	}
}
