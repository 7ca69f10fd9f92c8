package tests

import (
	"testing"

	"loop.example/netstack/impl"
)

// portEdges and noPorts return numbers of ports, both ends and what is next to them among them, and numbers out of range, also such as are in it in one byte.
func portEdges() []int {
	return []int{1, 2, 9, 127, 128, 254, 255}
}

func noPorts() []int {
	return []int{least, -65535, -257, -256, -255, -9, -1, 0, 256, 257, 265, 511, 512, 65536, 65537, greatest}
}

// sampleMails returns messages of all lengths, with addresses and ports at and between both ends, also from a port to itself.
func sampleMails() []impl.Mail {
	out := []impl.Mail{
		{Addr: 1, From: 7, To: 9, Data: []byte("hi")},
		{Addr: 0, From: 1, To: 1},
		{Addr: 65535, From: 255, To: 255, Data: filledBytes(255, 40)},
		{Addr: 65277, From: 1, To: 2},
	}
	for i, from := range portEdges() {
		for k, to := range portEdges() {
			addr := addrEdges()[(i*7+k)%11]
			out = append(out, impl.Mail{Addr: addr, From: from, To: to})
			out = append(out, impl.Mail{Addr: addr, From: from, To: to, Data: mixedBytes(i*7+k, 40)})
		}
	}
	for many := 0; many <= 40; many++ {
		out = append(out, impl.Mail{Addr: many * 1600, From: 1 + many, To: 255 - many, Data: mixedBytes(many, many)})
		out = append(out, impl.Mail{Addr: 258, From: 3, To: 4, Data: filledBytes(byte(many%2*255), many)})
	}
	return out
}

// badMails returns messages that are none: one thing is out of range, or all are.
func badMails() []impl.Mail {
	out := []impl.Mail{
		{},
		{Addr: -1, From: 0, To: 0, Data: mixedBytes(1, 41)},
		{Addr: 65536, From: 256, To: 256, Data: mixedBytes(1, 41)},
		{Addr: 1, Data: []byte("hi")},
	}
	for _, v := range noAddrs() {
		out = append(out, impl.Mail{Addr: v, From: 7, To: 9})
		out = append(out, impl.Mail{Addr: v, From: 7, To: 9, Data: mixedBytes(1, 40)})
	}
	for _, v := range noPorts() {
		out = append(out, impl.Mail{Addr: 1, From: v, To: 9})
		out = append(out, impl.Mail{Addr: 1, From: 7, To: v})
		out = append(out, impl.Mail{Addr: 1, From: v, To: v, Data: []byte("hi")})
	}
	for _, many := range []int{41, 42, 43, 44, 48, 49, 128, 255, 256, 257, 296, 65536, 65576} {
		out = append(out, impl.Mail{Addr: 1, From: 7, To: 9, Data: mixedBytes(many, many)})
	}
	return out
}

// sameMail, sameRow and samePorts report whether both are the same; none are the same as nil.
func sameMail(a impl.Mail, b impl.Mail) bool {
	return a.Addr == b.Addr && a.From == b.From && a.To == b.To && sameBytes(a.Data, b.Data)
}

func sameRow(a []impl.Mail, b []impl.Mail) bool {
	if len(a) != len(b) {
		return false
	}
	for i := range a {
		if !sameMail(a[i], b[i]) {
			return false
		}
	}
	return true
}

func samePorts(a []impl.Port, b []impl.Port) bool {
	if len(a) != len(b) {
		return false
	}
	for i := range a {
		if a[i].N != b[i].N || !sameRow(a[i].Row, b[i].Row) {
			return false
		}
	}
	return true
}

// mailMark and portMark are what stands in the room behind the rows and the ports that are handed in.
func mailMark() impl.Mail {
	return impl.Mail{Addr: 99, From: 99, To: 99, Data: []byte{9, 9}}
}

func portMark() impl.Port {
	return impl.Port{N: 99, Row: []impl.Mail{mailMark()}}
}

// mailCopied, rowCopied and portsCopied return the same in new memory, with room behind each list that is filled.
func mailCopied(m impl.Mail) impl.Mail {
	m.Data = joined(m.Data, filledBytes(9, 80))[:len(m.Data)]
	return m
}

func rowCopied(row []impl.Mail) []impl.Mail {
	out := []impl.Mail{}
	for _, m := range row {
		out = append(out, mailCopied(m))
	}
	return append(out, mailMark(), mailMark())[:len(row)]
}

func portsCopied(list []impl.Port) []impl.Port {
	out := []impl.Port{}
	for _, p := range list {
		out = append(out, impl.Port{N: p.N, Row: rowCopied(p.Row)})
	}
	return append(out, portMark(), portMark())[:len(list)]
}

// mailIsKept and portsAreKept fail if what was handed in (mailCopied, portsCopied) was written, or the room behind it.
func mailIsKept(t *testing.T, given impl.Mail, m impl.Mail) {
	t.Helper()
	if !sameMail(given, m) {
		t.Fatal("the message was written", m, given)
	}
	if !sameBytes(given.Data[:len(m.Data)+80][len(m.Data):], filledBytes(9, 80)) {
		t.Fatal("behind the bytes of the message", m)
	}
}

func portsAreKept(t *testing.T, given []impl.Port, list []impl.Port) {
	t.Helper()
	if !samePorts(given, list) {
		t.Fatal("the ports were written", list, given)
	}
	for _, p := range given {
		for _, m := range p.Row {
			mailIsKept(t, m, m)
		}
		if !sameRow(p.Row[:len(p.Row)+2][len(p.Row):], []impl.Mail{mailMark(), mailMark()}) {
			t.Fatal("behind the row", p)
		}
	}
	if !samePorts(given[:len(given)+2][len(given):], []impl.Port{portMark(), portMark()}) {
		t.Fatal("behind the ports", given)
	}
}

// betweenBytes returns bytes that go from an address to another one with their sum behind them, whatever they are.
func betweenBytes(from int, to int, b []byte) []byte {
	counted := joined([]byte{byte(from / 256), byte(from % 256), byte(to / 256), byte(to % 256)}, b)
	return joined(b, summed(counted)[len(counted):])
}

// mailBetween returns the bytes of a message from an address to another one by their definition, whatever its count, ports and addresses are.
func mailBetween(addr int, to int, told []byte, data []byte) []byte {
	return betweenBytes(addr, to, joined(told, data))
}

// mailAsBytes returns the bytes of a message to an address by their definition.
func mailAsBytes(m impl.Mail, to int) []byte {
	return mailBetween(m.Addr, to, []byte{byte(m.From), byte(m.To), byte(len(m.Data))}, m.Data)
}

// mailOkIs fails unless MailOk tells what is wanted of a message.
func mailOkIs(t *testing.T, m impl.Mail, want bool) {
	t.Helper()
	if got := impl.MailOk(m); got != want {
		t.Fatal(m, got)
	}
}

// mailBytesAre fails unless a message to an address has the bytes want, and these are it.
func mailBytesAre(t *testing.T, m impl.Mail, to int, want []byte) {
	t.Helper()
	if got := impl.MailBytes(m, to); !sameBytes(got, want) {
		t.Fatal(m, to, got, want)
	}
	mailIsRead(t, m.Addr, to, want, m)
}

// hasNoBytes fails if there are bytes of a message to an address.
func hasNoBytes(t *testing.T, m impl.Mail, to int) {
	t.Helper()
	if got := impl.MailBytes(m, to); len(got) != 0 {
		t.Fatal(m, to, got)
	}
}

// mailIsRead fails unless bytes from an address to another one are the message.
func mailIsRead(t *testing.T, from int, to int, b []byte, want impl.Mail) {
	t.Helper()
	if m, ok := impl.MailFrom(from, to, b); !ok || !sameMail(m, want) {
		t.Fatal(from, to, b, m, ok, want)
	}
}

// isNoMail fails if bytes from an address to another one are a message, or if what stands beside false is not nothing.
func isNoMail(t *testing.T, from int, to int, b []byte) {
	t.Helper()
	if m, ok := impl.MailFrom(from, to, b); ok || !sameMail(m, impl.Mail{}) {
		t.Fatal(from, to, b, m, ok)
	}
}

// mailTo returns a message to a port, with a text.
func mailTo(port int, text string) impl.Mail {
	return impl.Mail{Addr: 5, From: 7, To: port, Data: []byte(text)}
}

// portWith returns a port with messages of these texts.
func portWith(n int, texts ...string) impl.Port {
	out := impl.Port{N: n}
	for _, text := range texts {
		out.Row = append(out.Row, mailTo(n, text))
	}
	return out
}

// ports returns ports without messages.
func ports(numbers ...int) []impl.Port {
	out := []impl.Port{}
	for _, n := range numbers {
		out = append(out, impl.Port{N: n})
	}
	return out
}

// samplePorts returns ports: as few as there may be and as many, with rows that are empty, full, and between, of all samples of messages.
func samplePorts() [][]impl.Port {
	out := [][]impl.Port{
		nil,
		{portWith(1)},
		{portWith(255, "a", "b", "c")},
		{portWith(9, "a"), portWith(10, "b", "c")},
		{portWith(1, "a", "b"), portWith(128, "", "", ""), portWith(255)},
		{portWith(1), portWith(2, "a"), portWith(3, "b", "c"), portWith(4, "d", "e", "f")},
		{portWith(9, "a", "b", "c"), portWith(20, "d", "e", "f"), portWith(30, "g", "h", "i"), portWith(40, "j", "k", "l")},
		{portWith(252), portWith(253), portWith(254), portWith(255)},
	}
	for i, m := range sampleMails() {
		row := []impl.Mail{m}
		for len(row) <= i%3 {
			row = append(row, impl.Mail{Addr: i, From: 1 + i%255, To: m.To, Data: mixedBytes(i, i%41)})
		}
		out = append(out, []impl.Port{{N: m.To, Row: row}})
	}
	for seed := 0; seed < 60; seed++ {
		out = append(out, mixedPorts(seed))
	}
	return out
}

// mixedPorts returns ports in no order that can be seen, the same ones for the same seed.
func mixedPorts(seed int) []impl.Port {
	out := []impl.Port{}
	n := 0
	for _, x := range mixedBytes(seed, 4)[:seed%5] {
		n += 1 + int(x)%60
		p := impl.Port{N: n}
		for i := 0; i < int(x)/64; i++ {
			p.Row = append(p.Row, impl.Mail{Addr: seed * 200, From: 1 + int(x)%255, To: n, Data: mixedBytes(seed+i, int(x)%41)})
		}
		out = append(out, p)
	}
	return out
}

// badPorts returns ports that are none: one number, one row or one message is wrong, or the order is, or there are too many.
func badPorts() [][]impl.Port {
	out := [][]impl.Port{
		ports(2, 1),
		ports(9, 9),
		ports(1, 2, 2),
		ports(1, 1, 2),
		ports(1, 3, 2),
		ports(1, 2, 4, 3),
		ports(4, 1, 2, 3),
		ports(1, 2, 3, 4, 5),
		ports(1, 2, 3, 4, 4),
		ports(1, 2, 3, 4, 5, 6, 7, 8),
		{portWith(9, "a", "b", "c", "d")},
		{portWith(1), portWith(9, "a", "b", "c", "d"), portWith(10)},
		{{N: 9, Row: make([]impl.Mail, 300)}},
		{{N: 9, Row: []impl.Mail{mailTo(10, "a")}}},
		{{N: 9, Row: []impl.Mail{mailTo(9, "a"), mailTo(8, "b")}}},
		{{N: 9, Row: []impl.Mail{mailTo(9, "a"), mailTo(9, "b"), mailTo(265, "c")}}},
		{{N: 9, Row: []impl.Mail{mailTo(10, "a")}}, {N: 10, Row: []impl.Mail{mailTo(9, "a")}}},
	}
	for _, n := range noPorts() {
		out = append(out, ports(n))
		out = append(out, []impl.Port{portWith(n, "a")})
		if n < 1 {
			out = append(out, ports(n, 1, 2))
		} else {
			out = append(out, ports(1, 2, n))
		}
	}
	for _, m := range badMails() {
		out = append(out, []impl.Port{{N: m.To, Row: []impl.Mail{m}}})
		out = append(out, []impl.Port{portWith(8), {N: 9, Row: []impl.Mail{mailTo(9, "a"), m}}})
		m.To = 9
		if !mailOkAsDefined(m) {
			out = append(out, []impl.Port{{N: 9, Row: []impl.Mail{mailTo(9, "a"), mailTo(9, "b"), m}}, portWith(10)})
		}
	}
	return out
}

// mailOkAsDefined and portsOkAsDefined tell by the definition what MailOk and PortsOk tell.
func mailOkAsDefined(m impl.Mail) bool {
	addr := m.Addr >= 0 && m.Addr <= 65535
	return addr && m.From >= 1 && m.From <= 255 && m.To >= 1 && m.To <= 255 && len(m.Data) <= 40
}

func portsOkAsDefined(list []impl.Port) bool {
	for i, p := range list {
		for k := 0; k < i; k++ {
			if list[k].N >= p.N {
				return false
			}
		}
		for _, m := range p.Row {
			if m.To != p.N || !mailOkAsDefined(m) {
				return false
			}
		}
		if p.N < 1 || p.N > 255 || len(p.Row) > 3 {
			return false
		}
	}
	return len(list) <= 4
}

// heardAsDefined tells by the definition what PortHear returns of ports that are ok.
func heardAsDefined(list []impl.Port, own int, p impl.Packet) ([]impl.Port, int) {
	b := p.Data
	many := len(b) - 5
	reached := impl.PacketOk(p) && p.Proto == 2 && p.To == own && p.At == 0 && !p.More
	if !reached || many < 0 || many > 40 || int(b[2]) != many || b[0] == 0 || b[1] == 0 {
		return list, 0
	}
	m := impl.Mail{Addr: p.From, From: int(b[0]), To: int(b[1]), Data: b[3 : 3+many]}
	if !sameBytes(mailAsBytes(m, own), b) {
		return list, 0
	}
	for i := range list {
		if list[i].N == m.To && len(list[i].Row) == 3 {
			return list, 0
		}
		if list[i].N == m.To {
			out := portsCopied(list)
			out[i].Row = append(out[i].Row, m)
			return out, 1
		}
	}
	return list, 3
}

// packetWith returns a packet that brings a message to an address.
func packetWith(m impl.Mail, to int) impl.Packet {
	return impl.Packet{From: m.Addr, To: to, Proto: impl.ProtoPorts, Hops: 5, Id: 3, Data: mailAsBytes(m, to)}
}

// portsOkIs fails unless PortsOk tells what is wanted of ports.
func portsOkIs(t *testing.T, list []impl.Port, want bool) {
	t.Helper()
	if got := impl.PortsOk(list); got != want {
		t.Fatal(list, got)
	}
}

// listenIs fails unless one more port that is to listen makes these ports, and tells that.
func listenIs(t *testing.T, list []impl.Port, port int, want []impl.Port, more bool) {
	t.Helper()
	if got, ok := impl.PortListen(list, port); ok != more || !samePorts(got, want) {
		t.Fatal(list, port, got, ok, want)
	}
}

// portHearIs fails unless ports after a packet came are these, and it was for that.
func portHearIs(t *testing.T, list []impl.Port, own int, p impl.Packet, want []impl.Port, kind int) {
	t.Helper()
	if got, done := impl.PortHear(list, own, p); done != kind || !samePorts(got, want) {
		t.Fatal(list, own, p, got, done, want, kind)
	}
}

// isNotHeard fails if a packet to the address 12 turns ports, or is for anything.
func isNotHeard(t *testing.T, list []impl.Port, p impl.Packet) {
	t.Helper()
	portHearIs(t, list, 12, p, list, impl.DoneGone)
}

// takeIs fails unless a message is taken from a port, and leaves these ports.
func takeIs(t *testing.T, list []impl.Port, port int, want []impl.Port, m impl.Mail) {
	t.Helper()
	if got, first, ok := impl.PortTake(list, port); !ok || !samePorts(got, want) || !sameMail(first, m) {
		t.Fatal(list, port, got, first, ok, want, m)
	}
}

// takesNothing fails if a message is taken from a port, if what stands beside false is not nothing, or if other ports than these are left.
func takesNothing(t *testing.T, list []impl.Port, port int, want []impl.Port) {
	t.Helper()
	if got, m, ok := impl.PortTake(list, port); ok || !samePorts(got, want) || !sameMail(m, impl.Mail{}) {
		t.Fatal(list, port, got, m, ok)
	}
}

func TestP33KnownMessagesAsBytes(t *testing.T) {
	mailBytesAre(t, impl.Mail{Addr: 1, From: 7, To: 9, Data: []byte("hi")}, 3, []byte{7, 9, 2, 'h', 'i', 141, 138})
	mailBytesAre(t, impl.Mail{Addr: 1, From: 7, To: 9, Data: []byte("h")}, 3, []byte{7, 9, 1, 'h', 247, 138})
	mailBytesAre(t, impl.Mail{Addr: 258, From: 1, To: 255}, 65535, []byte{1, 255, 0, 252, 254})
	mailBytesAre(t, impl.Mail{From: 1, To: 1}, 0, []byte{1, 1, 0, 254, 254})
	// The sum of all that is 65535, so its complement is 0.
	mailBytesAre(t, impl.Mail{Addr: 65277, From: 1, To: 2}, 0, []byte{1, 2, 0, 0, 0})
	mailBytesAre(t, impl.Mail{From: 1, To: 2}, 65277, []byte{1, 2, 0, 0, 0})
}

func TestP33MessagesAreAsDefined(t *testing.T) {
	for _, m := range sampleMails() {
		for _, to := range append(addrEdges(), m.Addr, 65535-m.Addr) {
			mailBytesAre(t, m, to, mailAsBytes(m, to))
		}
	}
}

func TestP33MessagesCanBeReadBack(t *testing.T) {
	for _, m := range sampleMails() {
		b := impl.MailBytes(m, 12)
		if len(b) != 5+len(m.Data) {
			t.Fatal(m, b)
		}
		mailIsRead(t, m.Addr, 12, b, m)
	}
	for from := 1; from <= 255; from++ {
		for to := 1; to <= 255; to++ {
			m := impl.Mail{Addr: from * 257, From: from, To: to, Data: mixedBytes(from, to%3)}
			mailIsRead(t, m.Addr, to*256, impl.MailBytes(m, to*256), m)
		}
	}
	for v := 0; v <= 65535; v++ {
		m := impl.Mail{Addr: v, From: 7, To: 9, Data: mixedBytes(v, v%41)}
		mailIsRead(t, v, 65535-v, impl.MailBytes(m, 65535-v), m)
	}
}

func TestP33MessagesOfAllLengths(t *testing.T) {
	for many := 0; many <= 60; many++ {
		m := impl.Mail{Addr: 1, From: 7, To: 9, Data: mixedBytes(many, many)}
		if many <= 40 {
			mailBytesAre(t, m, 3, mailAsBytes(m, 3))
		} else {
			hasNoBytes(t, m, 3)
		}
	}
}

func TestP33MessagesStrayNowhere(t *testing.T) {
	for _, m := range sampleMails() {
		for _, to := range addrEdges() {
			b := impl.MailBytes(m, to)
			for _, by := range []int{1, 2, 255, 256, 257, 4096, 32768} {
				isNoMail(t, m.Addr+by, to, b)
				isNoMail(t, m.Addr-by, to, b)
				isNoMail(t, m.Addr, to+by, b)
				isNoMail(t, m.Addr, to-by, b)
				// Both are counted, so those that are further off together do not do.
				isNoMail(t, m.Addr+by, to+by, b)
				isNoMail(t, m.Addr-by, to-by, b)
			}
		}
	}
}

func TestP33OfAllAddressesJustOneHasTheSum(t *testing.T) {
	m := impl.Mail{Addr: 4660, From: 7, To: 9, Data: []byte("abc")}
	b := impl.MailBytes(m, 772)
	for addr := -1; addr <= 65536; addr++ {
		if addr != 4660 {
			isNoMail(t, addr, 772, b)
		}
		if addr != 772 {
			isNoMail(t, 4660, addr, b)
		}
	}
}

func TestP33TheSumCountsWhatIsAddedUpAlone(t *testing.T) {
	// Sums do not hang on where pairs stand, and 0 and 65535 count as one: there the addresses are those that were asked for.
	m := impl.Mail{Addr: 4660, From: 7, To: 9, Data: []byte("abc")}
	b := impl.MailBytes(m, 772)
	mailIsRead(t, 772, 4660, b, impl.Mail{Addr: 772, From: 7, To: 9, Data: []byte("abc")})
	m.Addr = 0
	b = impl.MailBytes(m, 65535)
	mailIsRead(t, 65535, 0, b, impl.Mail{Addr: 65535, From: 7, To: 9, Data: []byte("abc")})
}

func TestP33OtherMessagesHaveNoBytes(t *testing.T) {
	for _, m := range badMails() {
		for _, to := range []int{0, 3, 65535} {
			hasNoBytes(t, m, to)
		}
	}
	for _, m := range sampleMails() {
		for _, to := range noAddrs() {
			hasNoBytes(t, m, to)
		}
	}
}

func TestP34WhatIsReadWasSent(t *testing.T) {
	read := 0
	for seed := 0; seed < 60000; seed++ {
		told := mixedBytes(seed, 7)
		from, to := int(told[0])*256+int(told[1]), int(told[2])*256+int(told[3])
		data := mixedBytes(seed+7, seed%44)
		count := len(data) + int(told[4])%3
		b := mailBetween(from, to, []byte{told[5] % 4, told[6] % 4, byte(count)}, data)
		m, ok := impl.MailFrom(from, to, b)
		want := count == len(data) && count <= 40 && told[5]%4 > 0 && told[6]%4 > 0
		if ok != want {
			t.Fatal(from, to, b, m, ok)
		}
		if !ok {
			isNoMail(t, from, to, b)
			continue
		}
		read++
		mailOkIs(t, m, true)
		mailBytesAre(t, m, to, b)
	}
	if read < 1000 {
		t.Fatal("too few messages were read", read)
	}
}

func TestP34ATurnedBitIsNoticed(t *testing.T) {
	for _, m := range sampleMails() {
		for _, to := range []int{0, 12, 65277, 65535} {
			b := impl.MailBytes(m, to)
			for at := range b {
				for bit := 0; bit < 8; bit++ {
					isNoMail(t, m.Addr, to, bitTurned(b, at, bit))
				}
			}
		}
	}
}

func TestP34AByteLessOrMoreIsNoMessage(t *testing.T) {
	for _, m := range sampleMails() {
		b := impl.MailBytes(m, 12)
		for many := 0; many < len(b); many++ {
			isNoMail(t, m.Addr, 12, b[:many])
		}
		for x := 0; x <= 255; x++ {
			isNoMail(t, m.Addr, 12, joined(b, []byte{byte(x)}))
		}
		isNoMail(t, m.Addr, 12, joined([]byte{0}, b))
		isNoMail(t, m.Addr, 12, joined(b, b))
		isNoMail(t, m.Addr, 12, joined(b, filledBytes(0, 256)))
		isNoMail(t, m.Addr, 12, joined(b, filledBytes(0, 65536)))
	}
}

func TestP34FewerBytesThanAHeadAndASum(t *testing.T) {
	isNoMail(t, 1, 3, nil)
	isNoMail(t, -1, -1, nil)
	for many := 0; many < 5; many++ {
		for x := 0; x <= 255; x++ {
			isNoMail(t, 1, 3, filledBytes(byte(x), many))
		}
		// Not even with a sum that is right.
		if many < 3 {
			isNoMail(t, 1, 3, mailBetween(1, 3, []byte{7, 9, 0}[:many], nil))
		}
	}
}

func TestP34CountsThatDoNotFit(t *testing.T) {
	for many := 0; many <= 300; many++ {
		data := mixedBytes(many, many)
		for count := 0; count <= 255; count++ {
			b := mailBetween(1, 3, []byte{7, 9, byte(count)}, data)
			if count == many && many <= 40 {
				mailIsRead(t, 1, 3, b, impl.Mail{Addr: 1, From: 7, To: 9, Data: data})
			} else {
				isNoMail(t, 1, 3, b)
			}
		}
	}
}

func TestP34ThePortNothingIsRead(t *testing.T) {
	for _, data := range [][]byte{nil, []byte("hi"), mixedBytes(1, 40)} {
		count := byte(len(data))
		for port := 0; port <= 255; port++ {
			isNoMail(t, 1, 3, mailBetween(1, 3, []byte{0, byte(port), count}, data))
			isNoMail(t, 1, 3, mailBetween(1, 3, []byte{byte(port), 0, count}, data))
		}
	}
}

func TestP34JustOneSumIsRead(t *testing.T) {
	for _, m := range sampleMails() {
		b := impl.MailBytes(m, 12)
		right := int(b[len(b)-2])*256 + int(b[len(b)-1])
		for sum := 0; sum <= 65535; sum += 257 {
			other := joined(b[:len(b)-2], []byte{byte(sum / 256), byte(sum % 256)})
			if sum != right {
				isNoMail(t, m.Addr, 12, other)
			}
		}
	}
	// Where the sum is 0, 65535 would fit as well, but is not sent.
	mailIsRead(t, 65277, 0, []byte{1, 2, 0, 0, 0}, impl.Mail{Addr: 65277, From: 1, To: 2})
	isNoMail(t, 65277, 0, []byte{1, 2, 0, 255, 255})
}

func TestP34BetweenAddressesOutOfRangeThereIsNone(t *testing.T) {
	for _, m := range sampleMails() {
		for _, to := range []int{0, 12, 65535} {
			b := impl.MailBytes(m, to)
			for _, v := range noAddrs() {
				isNoMail(t, v, to, b)
				isNoMail(t, m.Addr, v, b)
				isNoMail(t, v, v, b)
				isNoMail(t, v, to, mailBetween(v, to, b[:3], m.Data))
				isNoMail(t, m.Addr, v, mailBetween(m.Addr, v, b[:3], m.Data))
			}
		}
	}
}

func TestP35KnownMessagesStandInARow(t *testing.T) {
	list := ports(8, 9, 10)
	hi, you := mailTo(9, "hi"), mailTo(9, "you")
	portHearIs(t, list, 12, packetWith(hi, 12), []impl.Port{{N: 8}, {N: 9, Row: []impl.Mail{hi}}, {N: 10}}, impl.DoneHere)
	list, _ = impl.PortHear(list, 12, packetWith(hi, 12))
	portHearIs(t, list, 12, packetWith(you, 12), []impl.Port{{N: 8}, {N: 9, Row: []impl.Mail{hi, you}}, {N: 10}}, impl.DoneHere)
	portHearIs(t, list, 12, packetWith(mailTo(11, "hi"), 12), list, impl.DoneNote)
	portHearIs(t, nil, 12, packetWith(hi, 12), nil, impl.DoneNote)
}

func TestP35ThePortOfTheOtherSideDoesNotCount(t *testing.T) {
	m := impl.Mail{Addr: 5, From: 9, To: 7, Data: []byte("hi")}
	portHearIs(t, ports(9), 12, packetWith(m, 12), ports(9), impl.DoneNote)
	portHearIs(t, ports(7), 12, packetWith(m, 12), []impl.Port{{N: 7, Row: []impl.Mail{m}}}, impl.DoneHere)
}

func TestP35WhatIsHeardTwiceStandsThereTwice(t *testing.T) {
	// Messages have no numbers, so each packet stands once in the row, also if another one brings the same.
	list := ports(9)
	m := mailTo(9, "hi")
	for many := 1; many <= 3; many++ {
		next, kind := impl.PortHear(list, 12, packetWith(m, 12))
		if kind != impl.DoneHere || len(next[0].Row) != many || !sameMail(next[0].Row[many-1], m) {
			t.Fatal(many, next, kind)
		}
		list = next
	}
	isNotHeard(t, list, packetWith(m, 12))
}

func TestP35MessagesOfAllKindsStandInARow(t *testing.T) {
	for _, m := range sampleMails() {
		for _, own := range append(addrEdges(), m.Addr) {
			p := packetWith(m, own)
			portHearIs(t, ports(m.To), own, p, []impl.Port{{N: m.To, Row: []impl.Mail{m}}}, impl.DoneHere)
			portHearIs(t, nil, own, p, nil, impl.DoneNote)
			p.Whole = true
			portHearIs(t, ports(m.To), own, p, []impl.Port{{N: m.To, Row: []impl.Mail{m}}}, impl.DoneHere)
		}
	}
}

func TestP35HopsAndNumbersDoNotCount(t *testing.T) {
	m := mailTo(9, "hi")
	for _, v := range byteEdges() {
		p := packetWith(m, 12)
		p.Hops = v
		p.Id = 255 - v
		portHearIs(t, ports(9), 12, p, []impl.Port{{N: 9, Row: []impl.Mail{m}}}, impl.DoneHere)
		portHearIs(t, ports(8), 12, p, ports(8), impl.DoneNote)
	}
}

func TestP35WhatComesStandsInOneRow(t *testing.T) {
	for _, list := range samplePorts() {
		for port := 1; port <= 255; port++ {
			m := impl.Mail{Addr: 5, From: port, To: port, Data: mixedBytes(port, port%41)}
			p := packetWith(m, 12)
			want, kind := heardAsDefined(list, 12, p)
			portHearIs(t, list, 12, p, want, kind)
			portsOkIs(t, want, true)
		}
	}
}

func TestP35AFullRowTakesNoMore(t *testing.T) {
	for _, n := range portEdges() {
		for many := 0; many <= 3; many++ {
			list := []impl.Port{{N: n}}
			for i := 0; i < many; i++ {
				list[0].Row = append(list[0].Row, mailTo(n, "old"))
			}
			got, kind := impl.PortHear(list, 12, packetWith(mailTo(n, "new"), 12))
			if many == 3 {
				isNotHeard(t, list, packetWith(mailTo(n, "new"), 12))
				continue
			}
			if kind != impl.DoneHere || len(got[0].Row) != many+1 || !sameMail(got[0].Row[many], mailTo(n, "new")) || !sameRow(got[0].Row[:many], list[0].Row) {
				t.Fatal(list, got, kind)
			}
		}
	}
}

func TestP35AFullRowLeavesOthersRoom(t *testing.T) {
	list := []impl.Port{portWith(8, "a", "b"), portWith(9, "c", "d", "e"), portWith(10)}
	isNotHeard(t, list, packetWith(mailTo(9, "x"), 12))
	portHearIs(t, list, 12, packetWith(mailTo(8, "x"), 12), []impl.Port{portWith(8, "a", "b", "x"), list[1], list[2]}, impl.DoneHere)
	portHearIs(t, list, 12, packetWith(mailTo(10, "x"), 12), []impl.Port{list[0], list[1], portWith(10, "x")}, impl.DoneHere)
	portHearIs(t, list, 12, packetWith(mailTo(11, "x"), 12), list, impl.DoneNote)
}

func TestP35PiecesAreNotHeard(t *testing.T) {
	for _, list := range [][]impl.Port{nil, ports(9), ports(8, 9, 10), ports(8)} {
		p := packetWith(mailTo(9, "hi"), 12)
		p.More = true
		isNotHeard(t, list, p)
		for at := 1; at <= 255; at++ {
			p.At = at
			p.More = false
			isNotHeard(t, list, p)
			p.More = true
			isNotHeard(t, list, p)
		}
	}
}

func TestP35OtherProtocolsAreNotHeard(t *testing.T) {
	p := packetWith(mailTo(9, "hi"), 12)
	for proto := -3; proto <= 300; proto++ {
		p.Proto = proto
		if proto == impl.ProtoPorts {
			portHearIs(t, ports(9), 12, p, []impl.Port{portWith(9, "hi")}, impl.DoneHere)
			portHearIs(t, ports(8), 12, p, ports(8), impl.DoneNote)
		} else {
			isNotHeard(t, ports(9), p)
			isNotHeard(t, ports(8), p)
		}
	}
}

func TestP35PacketsForOtherAddressesAreNotHeard(t *testing.T) {
	m := mailTo(9, "hi")
	for _, own := range append(addrEdges(), noAddrs()...) {
		p := packetWith(m, 12)
		// The sum is that of the address to which it came, and the packet is for another one, or the other way round.
		isGoneAt(t, own, p)
		p.Data = mailAsBytes(m, own&65535)
		isGoneAt(t, own, p)
		if own >= 0 && own <= 65535 {
			p = packetWith(m, own)
			p.Data = mailAsBytes(m, 12)
			isGoneAt(t, own, p)
		}
	}
	for own := -3; own <= 66000; own++ {
		if own != 12 {
			isGoneAt(t, own, packetWith(m, 12))
		}
	}
}

// isGoneAt fails if a packet that came to an address turns ports, or a note is to be told of it.
func isGoneAt(t *testing.T, own int, p impl.Packet) {
	t.Helper()
	portHearIs(t, ports(9), own, p, ports(9), impl.DoneGone)
	portHearIs(t, ports(8), own, p, ports(8), impl.DoneGone)
	portHearIs(t, nil, own, p, nil, impl.DoneGone)
}

func TestP35MessagesThatStrayAreNotHeard(t *testing.T) {
	for _, m := range sampleMails() {
		p := packetWith(m, 12)
		for _, from := range []int{m.Addr - 1, m.Addr + 1, m.Addr + 256, m.Addr - 256} {
			p.From = from
			isNotHeard(t, ports(m.To), p)
			isNotHeard(t, nil, p)
		}
	}
}

func TestP35WhatIsNoMessageIsNotHeard(t *testing.T) {
	m := mailTo(9, "hello")
	b := mailAsBytes(m, 12)
	p := packetWith(m, 12)
	for many := 0; many < len(b); many++ {
		p.Data = b[:many]
		isNotHeard(t, ports(9), p)
		isNotHeard(t, nil, p)
	}
	for at := range b {
		for bit := 0; bit < 8; bit++ {
			p.Data = bitTurned(b, at, bit)
			isNotHeard(t, ports(9), p)
			isNotHeard(t, nil, p)
		}
	}
	for more := 1; more <= 38; more++ {
		p.Data = joined(b, filledBytes(0, more))
		isNotHeard(t, ports(9), p)
	}
	for _, ends := range [][]byte{{0, 9}, {7, 0}, {0, 0}} {
		p.Data = mailBetween(5, 12, append(ends, 2), []byte("hi"))
		isNotHeard(t, ports(9), p)
		isNotHeard(t, nil, p)
	}
	for _, many := range []int{41, 42, 43} {
		p.Data = mailBetween(5, 12, []byte{7, 9, byte(many)}, mixedBytes(1, many))
		isNotHeard(t, ports(9), p)
		isNotHeard(t, nil, p)
	}
}

func TestP35WhatIsNoPacketIsNotHeard(t *testing.T) {
	for _, list := range [][]impl.Port{nil, ports(9), ports(8)} {
		for _, p := range badPackets() {
			portHearIs(t, list, p.To, p, list, impl.DoneGone)
			// It is none, though it carries a message.
			p.Proto = impl.ProtoPorts
			p.Data = mailAsBytes(impl.Mail{Addr: p.From & 65535, From: 7, To: 9, Data: []byte("hi")}, p.To&65535)
			if !impl.PacketOk(p) {
				portHearIs(t, list, p.To, p, list, impl.DoneGone)
			}
			p.At = 0
			p.More = false
			if !impl.PacketOk(p) {
				portHearIs(t, list, p.To, p, list, impl.DoneGone)
			}
		}
	}
}

func TestP35PortsThatAreNoneHearNothing(t *testing.T) {
	for _, list := range badPorts() {
		for _, port := range []int{1, 2, 9, 10, 255} {
			portHearIs(t, list, 12, packetWith(mailTo(port, "hi"), 12), nil, impl.DoneGone)
		}
		portHearIs(t, list, 12, impl.Packet{}, nil, impl.DoneGone)
		portHearIs(t, list, -1, impl.Packet{From: -1, To: -1}, nil, impl.DoneGone)
	}
}

func TestP35MessagesInAnyMixture(t *testing.T) {
	kinds := make([]int, 4)
	for seed := 0; seed < 300; seed++ {
		list := mixedPorts(seed)
		for i, x := range mixedBytes(seed+500, 12) {
			m := impl.Mail{Addr: 5, From: 1 + int(x), To: 1 + int(x)%120, Data: mixedBytes(i, int(x)%41)}
			m.From = 1 + m.From%255
			if len(list) > 0 && x%3 > 0 {
				m.To = list[int(x)%len(list)].N
			}
			p := packetWith(m, 12)
			if x%11 == 0 {
				p.Data = bitTurned(p.Data, 0, 3)
			}
			want, kind := heardAsDefined(list, 12, p)
			portHearIs(t, list, 12, p, want, kind)
			kinds[kind]++
			list = want
		}
	}
	if kinds[impl.DoneGone] < 100 || kinds[impl.DoneHere] < 100 || kinds[impl.DoneNote] < 100 {
		t.Fatal("too few of a kind", kinds)
	}
}

func TestP36KnownMessagesAreTaken(t *testing.T) {
	list := []impl.Port{portWith(8, "a"), portWith(9, "b", "c", "d"), portWith(10)}
	takeIs(t, list, 9, []impl.Port{list[0], portWith(9, "c", "d"), list[2]}, mailTo(9, "b"))
	takeIs(t, list, 8, []impl.Port{portWith(8), list[1], list[2]}, mailTo(8, "a"))
	takesNothing(t, list, 10, list)
	takesNothing(t, list, 11, list)
	takesNothing(t, nil, 9, nil)
}

func TestP36WhatCameFirstIsTakenFirst(t *testing.T) {
	for _, list := range samplePorts() {
		for i, p := range list {
			left := list
			for k, m := range p.Row {
				want := portsCopied(list)
				want[i].Row = p.Row[k+1:]
				takeIs(t, left, p.N, want, m)
				portsOkIs(t, want, true)
				left, _, _ = impl.PortTake(left, p.N)
			}
			takesNothing(t, left, p.N, left)
			if len(left[i].Row) != 0 || left[i].N != p.N {
				t.Fatal(list, left)
			}
		}
	}
}

func TestP36WhatWasHeardIsTakenInOrder(t *testing.T) {
	list := ports(1, 9, 255)
	for _, text := range []string{"first", "", "last"} {
		for _, n := range []int{9, 255, 1} {
			next, kind := impl.PortHear(list, 12, packetWith(mailTo(n, text), 12))
			if kind != impl.DoneHere {
				t.Fatal(list, kind)
			}
			list = next
		}
	}
	for _, n := range []int{255, 1, 9} {
		for _, text := range []string{"first", "", "last"} {
			next, m, ok := impl.PortTake(list, n)
			if !ok || !sameMail(m, mailTo(n, text)) {
				t.Fatal(list, m, ok)
			}
			list = next
		}
		takesNothing(t, list, n, list)
	}
	if !samePorts(list, ports(1, 9, 255)) {
		t.Fatal(list)
	}
}

func TestP36WhatIsTakenLeavesRoom(t *testing.T) {
	list := []impl.Port{portWith(9, "a", "b", "c")}
	isNotHeard(t, list, packetWith(mailTo(9, "d"), 12))
	list, _, _ = impl.PortTake(list, 9)
	portHearIs(t, list, 12, packetWith(mailTo(9, "d"), 12), []impl.Port{portWith(9, "b", "c", "d")}, impl.DoneHere)
}

func TestP36AMessageWithoutBytesIsTaken(t *testing.T) {
	empty := impl.Mail{Addr: 0, From: 1, To: 9}
	list := []impl.Port{{N: 9, Row: []impl.Mail{empty, mailTo(9, "a")}}}
	takeIs(t, list, 9, []impl.Port{portWith(9, "a")}, empty)
}

func TestP36FromOtherPortsNothingIsTaken(t *testing.T) {
	for _, list := range samplePorts() {
		for _, port := range noPorts() {
			takesNothing(t, list, port, list)
		}
		for port := 1; port <= 255; port++ {
			if !listens(list, port) {
				takesNothing(t, list, port, list)
			}
		}
	}
}

// listens reports whether a port is one of those that listen.
func listens(list []impl.Port, port int) bool {
	for _, p := range list {
		if p.N == port {
			return true
		}
	}
	return false
}

func TestP36FromPortsThatAreNoneNothingIsTaken(t *testing.T) {
	for _, list := range badPorts() {
		for _, port := range append(noPorts(), 1, 2, 8, 9, 10, 255) {
			takesNothing(t, list, port, nil)
		}
		for _, p := range list {
			takesNothing(t, list, p.N, nil)
		}
	}
}

func TestP112MessagesAreOk(t *testing.T) {
	for _, m := range sampleMails() {
		mailOkIs(t, m, true)
	}
	for v := -3; v <= 300; v++ {
		mailOkIs(t, impl.Mail{Addr: v, From: 1, To: 1}, v >= 0)
		mailOkIs(t, impl.Mail{Addr: v + 65400, From: 255, To: 1}, v+65400 <= 65535)
		mailOkIs(t, impl.Mail{From: v, To: 9}, v >= 1 && v <= 255)
		mailOkIs(t, impl.Mail{From: 7, To: v}, v >= 1 && v <= 255)
		mailOkIs(t, impl.Mail{Addr: 65535, From: v, To: v, Data: mixedBytes(1, 40)}, v >= 1 && v <= 255)
	}
	for many := 0; many <= 300; many++ {
		mailOkIs(t, impl.Mail{Addr: 1, From: 7, To: 9, Data: filledBytes(0, many)}, many <= 40)
	}
}

func TestP112WhoMaySendMayBeAnswered(t *testing.T) {
	for _, m := range append(sampleMails(), badMails()...) {
		back := m
		back.From = m.To
		back.To = m.From
		mailOkIs(t, m, mailOkAsDefined(m))
		mailOkIs(t, back, mailOkAsDefined(m))
	}
	for _, m := range sampleMails() {
		back := impl.Mail{Addr: 12, From: m.To, To: m.From, Data: m.Data}
		mailIsRead(t, 12, m.Addr, impl.MailBytes(back, m.Addr), back)
	}
}

func TestP112FromThePortNothingThereIsNone(t *testing.T) {
	for _, m := range sampleMails() {
		m.From = 0
		mailOkIs(t, m, false)
		m.Data = nil
		mailOkIs(t, m, false)
		m.From = m.To
		m.To = 0
		mailOkIs(t, m, false)
	}
}

func TestP112InvalidMessagesAreNotOk(t *testing.T) {
	for _, m := range badMails() {
		mailOkIs(t, m, false)
	}
}

func TestP113PortsAreOk(t *testing.T) {
	for _, list := range samplePorts() {
		portsOkIs(t, list, true)
	}
	for n := -300; n <= 600; n++ {
		portsOkIs(t, ports(n), n >= 1 && n <= 255)
	}
	for a := 0; a <= 256; a++ {
		for b := 0; b <= 256; b++ {
			portsOkIs(t, ports(a, b), a >= 1 && a < b && b <= 255)
		}
	}
}

func TestP113FewerPortsArePorts(t *testing.T) {
	portsOkIs(t, nil, true)
	portsOkIs(t, []impl.Port{}, true)
	for _, list := range samplePorts() {
		for many := range list {
			portsOkIs(t, list[:many], true)
		}
	}
}

func TestP113AsManyPortsAsMayBe(t *testing.T) {
	list := []impl.Port{}
	for n := 1; n <= 255; n++ {
		list = append(list, portWith(n, "a", "b", "c"))
		portsOkIs(t, list, n <= 4)
	}
}

func TestP113AsManyMessagesAsMayBe(t *testing.T) {
	for _, n := range portEdges() {
		p := impl.Port{N: n}
		for many := 0; many <= 300; many++ {
			portsOkIs(t, []impl.Port{p}, many <= 3)
			p.Row = append(p.Row, mailTo(n, "a"))
		}
	}
}

func TestP113MessagesAreToTheirPort(t *testing.T) {
	for _, n := range portEdges() {
		for _, to := range append(portEdges(), noPorts()...) {
			for at := 0; at < 3; at++ {
				p := portWith(n, "a", "b", "c")
				p.Row[at].To = to
				portsOkIs(t, []impl.Port{p}, to == n)
			}
		}
	}
}

func TestP113InvalidPortsAreNotOk(t *testing.T) {
	for _, list := range badPorts() {
		portsOkIs(t, list, false)
		if portsOkAsDefined(list) {
			t.Fatal(list)
		}
	}
	for _, m := range badMails() {
		for at := 0; at < 3; at++ {
			p := portWith(9, "a", "b", "c")
			p.Row[at] = m
			portsOkIs(t, []impl.Port{portWith(8), p}, mailOkAsDefined(m) && m.To == 9)
		}
	}
}

func TestP114KnownPortsListen(t *testing.T) {
	listenIs(t, nil, 9, ports(9), true)
	listenIs(t, ports(9), 1, ports(1, 9), true)
	listenIs(t, ports(9), 255, ports(9, 255), true)
	listenIs(t, ports(1, 255), 128, ports(1, 128, 255), true)
	listenIs(t, ports(1, 2, 4), 3, ports(1, 2, 3, 4), true)
	listenIs(t, ports(1, 9), 9, ports(1, 9), false)
	listenIs(t, ports(1, 2, 3, 4), 5, ports(1, 2, 3, 4), false)
}

func TestP114AnyOrderIsOneOrder(t *testing.T) {
	for _, order := range orders(4) {
		list := []impl.Port{}
		for many, i := range order {
			next, ok := impl.PortListen(list, []int{1, 9, 128, 255}[i])
			if !ok || len(next) != many+1 || !portsOkAsDefined(next) {
				t.Fatal(order, next, ok)
			}
			list = next
		}
		if !samePorts(list, ports(1, 9, 128, 255)) {
			t.Fatal(order, list)
		}
	}
}

func TestP114WhoListensOnceListensOnce(t *testing.T) {
	for _, list := range samplePorts() {
		for port := 1; port <= 255; port++ {
			if listens(list, port) || len(list) == 4 {
				listenIs(t, list, port, list, false)
				continue
			}
			want := withPort(list, port)
			listenIs(t, list, port, want, true)
			portsOkIs(t, want, true)
			listenIs(t, want, port, want, false)
		}
	}
}

// withPort returns ports with one more by the definition: ascending, with nothing in its row.
func withPort(list []impl.Port, port int) []impl.Port {
	out := []impl.Port{}
	for _, p := range list {
		if p.N < port {
			out = append(out, p)
		}
	}
	out = append(out, impl.Port{N: port})
	for _, p := range list {
		if p.N > port {
			out = append(out, p)
		}
	}
	return out
}

func TestP114WhatCameStaysWhenOneMoreListens(t *testing.T) {
	list := []impl.Port{portWith(8, "a", "b", "c"), portWith(10, "d")}
	listenIs(t, list, 9, []impl.Port{list[0], {N: 9}, list[1]}, true)
	listenIs(t, list, 1, []impl.Port{{N: 1}, list[0], list[1]}, true)
	listenIs(t, list, 255, []impl.Port{list[0], list[1], {N: 255}}, true)
	listenIs(t, list, 10, list, false)
}

func TestP114WhoListensHears(t *testing.T) {
	for port := 1; port <= 255; port++ {
		p := packetWith(mailTo(port, "hi"), 12)
		portHearIs(t, nil, 12, p, nil, impl.DoneNote)
		list, _ := impl.PortListen(nil, port)
		portHearIs(t, list, 12, p, []impl.Port{portWith(port, "hi")}, impl.DoneHere)
	}
}

func TestP114OtherPortsDoNotListen(t *testing.T) {
	for _, list := range samplePorts() {
		for _, port := range noPorts() {
			listenIs(t, list, port, nil, false)
		}
	}
	for port := -300; port <= 600; port++ {
		if port < 1 || port > 255 {
			listenIs(t, nil, port, nil, false)
			listenIs(t, ports(9), port, nil, false)
			// Also where no port could be put any more.
			listenIs(t, ports(1, 2, 3, 4), port, nil, false)
		}
	}
}

func TestP114PortsThatAreNoneGetNoMore(t *testing.T) {
	for _, list := range badPorts() {
		for _, port := range append(noPorts(), 1, 2, 9, 10, 77, 255) {
			listenIs(t, list, port, nil, false)
		}
	}
}

// portsSpoiled turns all that there is in ports, and fills the room behind each list.
func portsSpoiled(list []impl.Port) {
	for i := range list {
		rowSpoiled(list[i].Row)
		list[i] = impl.Port{N: 77}
	}
	for i := 0; i < 10; i++ {
		list = append(list, impl.Port{N: 77})
	}
}

// rowSpoiled turns all that there is in a row, and fills the room behind it.
func rowSpoiled(row []impl.Mail) {
	for i := range row {
		bytesSpoiled(row[i].Data)
		row[i] = impl.Mail{Addr: 77, Data: filledBytes(77, 3)}
	}
	for i := 0; i < 10; i++ {
		row = append(row, impl.Mail{Addr: 77})
	}
}

// portsAreApart fails if two rows, or two messages, of ports share memory. It spoils them.
func portsAreApart(t *testing.T, list []impl.Port) {
	t.Helper()
	was := portsCopied(list)
	for i := range list {
		for k := range list[i].Row {
			bytesSpoiled(list[i].Row[k].Data)
			if !sameRow(list[i].Row[:k], was[i].Row[:k]) || !sameRow(list[i].Row[k+1:], was[i].Row[k+1:]) {
				t.Fatal("messages share memory", was, i, k)
			}
			bytesSpoiled(list[i].Row[k].Data)
		}
		rowSpoiled(list[i].Row)
		if !samePorts(list[i+1:], was[i+1:]) {
			t.Fatal("rows share memory", was, i)
		}
	}
}

func TestChapter9WritesNoArguments(t *testing.T) {
	for _, m := range append(sampleMails(), badMails()...) {
		given := mailCopied(m)
		impl.MailOk(given)
		impl.MailBytes(given, 12)
		impl.MailBytes(given, -1)
		mailIsKept(t, given, m)
		b := joined(mailAsBytes(m, 12), filledBytes(9, 80))
		was := copied(b)
		impl.MailFrom(m.Addr, 12, b[:len(b)-80])
		impl.MailFrom(m.Addr, 13, b[:len(b)-80])
		if !sameBytes(b, was) {
			t.Fatal(m, b)
		}
	}
	for _, list := range append(samplePorts(), badPorts()...) {
		given := portsCopied(list)
		impl.PortsOk(given)
		for _, port := range []int{-1, 0, 1, 2, 9, 10, 77, 255, 256} {
			impl.PortListen(given, port)
			impl.PortTake(given, port)
			p := packetCopied(packetWith(mailTo(port, "hi"), 12))
			impl.PortHear(given, 12, p)
			impl.PortHear(given, 13, p)
			packetIsKept(t, p, packetWith(mailTo(port, "hi"), 12))
		}
		portsAreKept(t, given, list)
	}
}

func TestChapter9BytesOfMessagesAreNewMemory(t *testing.T) {
	for _, m := range sampleMails() {
		want := mailAsBytes(m, 12)
		given := mailCopied(m)
		b := impl.MailBytes(given, 12)
		bytesSpoiled(given.Data)
		if !sameBytes(b, want) {
			t.Fatal("the bytes have memory of the message", m, b)
		}
		given = mailCopied(m)
		bytesSpoiled(impl.MailBytes(given, 12))
		mailIsKept(t, given, m)
	}
}

func TestChapter9MessagesThatAreReadAreNewMemory(t *testing.T) {
	for _, m := range sampleMails() {
		want := mailAsBytes(m, 12)
		room := joined(want, filledBytes(9, 80))
		got, _ := impl.MailFrom(m.Addr, 12, room[:len(want)])
		bytesSpoiled(room[:len(want)])
		if !sameMail(got, m) {
			t.Fatal("the message has memory of the bytes", m, got)
		}
		room = joined(want, filledBytes(9, 80))
		got, _ = impl.MailFrom(m.Addr, 12, room[:len(want)])
		bytesSpoiled(got.Data)
		if !sameBytes(room, joined(want, filledBytes(9, 80))) {
			t.Fatal("the bytes have memory of the message", m, room)
		}
	}
}

func TestChapter9PortsThatListenAreNewMemory(t *testing.T) {
	for _, list := range samplePorts() {
		for _, port := range []int{1, 9, 77, 128, 255} {
			given := portsCopied(list)
			got, _ := impl.PortListen(given, port)
			want := portsCopied(got)
			portsSpoiled(given)
			if !samePorts(got, want) {
				t.Fatal("the answer has memory of what was handed in", list, port, got)
			}
			given = portsCopied(list)
			got, _ = impl.PortListen(given, port)
			portsAreApart(t, got)
			portsSpoiled(got)
			portsAreKept(t, given, list)
		}
	}
}

func TestChapter9PortsThatHearAreNewMemory(t *testing.T) {
	for _, list := range samplePorts() {
		for _, port := range []int{1, 3, 9, 10, 77, 255} {
			for _, own := range []int{12, 13} {
				sent := packetWith(mailTo(port, "hello"), 12)
				given, p := portsCopied(list), packetCopied(sent)
				got, _ := impl.PortHear(given, own, p)
				want := portsCopied(got)
				portsSpoiled(given)
				bytesSpoiled(p.Data)
				if !samePorts(got, want) {
					t.Fatal("the answer has memory of what was handed in", list, port, got)
				}
				given, p = portsCopied(list), packetCopied(sent)
				got, _ = impl.PortHear(given, own, p)
				portsAreApart(t, got)
				portsSpoiled(got)
				portsAreKept(t, given, list)
				packetIsKept(t, p, sent)
			}
		}
	}
}

func TestChapter9MessagesThatAreTakenAreNewMemory(t *testing.T) {
	for _, list := range samplePorts() {
		for _, port := range []int{0, 1, 2, 3, 9, 20, 128, 255} {
			given := portsCopied(list)
			got, m, _ := impl.PortTake(given, port)
			want, first := portsCopied(got), mailCopied(m)
			portsSpoiled(given)
			if !samePorts(got, want) || !sameMail(m, first) {
				t.Fatal("the answer has memory of what was handed in", list, port, got, m)
			}
			given = portsCopied(list)
			got, m, _ = impl.PortTake(given, port)
			bytesSpoiled(m.Data)
			if !samePorts(got, want) {
				t.Fatal("the ports have memory of the message", list, port, got)
			}
			_, m, _ = impl.PortTake(given, port)
			portsAreApart(t, got)
			portsSpoiled(got)
			if !sameMail(m, first) {
				t.Fatal("the message has memory of the ports", list, port, m)
			}
			portsAreKept(t, given, list)
		}
	}
}
