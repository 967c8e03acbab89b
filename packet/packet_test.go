package packet_test

import (
	"fmt"
	"math"
	"slices"
	"testing"

	"standby/api"
	"standby/checksum"
	"standby/packet"
	"standby/wire"
)

const most = 1<<53 - 1

// random returns numbers from 0 to n - 1 that look random.
func random(seed uint32) func(n int) int {
	return func(n int) int {
		seed = seed*1664525 + 1013904223
		return int(seed>>8) % n
	}
}

// text are some bytes that depend on a number.
func text(n, length int) []byte {
	var l []byte
	for i := range length {
		l = append(l, byte(n+i*7))
	}
	return l
}

// numbers are the encodings of numbers, one behind the other.
func numbers(l ...int) []byte {
	var b []byte
	for _, n := range l {
		for ; n >= 128; n /= 128 {
			b = append(b, byte(n%128+128))
		}
		b = append(b, byte(n))
	}
	return b
}

// summed are bytes and their sum.
func summed(parts ...[]byte) []byte {
	b := slices.Concat(parts...)
	sum := checksum.Sum(b)
	return append(b, byte(sum), byte(sum>>8), byte(sum>>16), byte(sum>>24))
}

// packetParts are the encodings of the parts of a packet, by the definition.
func packetParts(p api.Packet) [][]byte {
	extents := []int{len(p.Selective)}
	for _, e := range p.Selective {
		extents = append(extents, e.Start, e.Count)
	}
	return [][]byte{numbers(p.Kind), numbers(p.Session), numbers(p.Sequence), numbers(p.Ack), numbers(p.Credit), numbers(extents...), slices.Concat(numbers(len(p.Payload)), p.Payload)}
}

// messageParts are the encodings of the parts of a message, by the definition.
func messageParts(m api.Message) [][]byte {
	return [][]byte{numbers(m.Kind), numbers(m.From), numbers(m.To), numbers(m.Number), numbers(m.Value), numbers(m.Epoch), slices.Concat(numbers(len(m.Values)), numbers(m.Values...)), slices.Concat(numbers(len(m.Body)), m.Body)}
}

func samePacket(a, b api.Packet) bool {
	return a.Kind == b.Kind && a.Session == b.Session && a.Sequence == b.Sequence && a.Ack == b.Ack && a.Credit == b.Credit && slices.Equal(a.Selective, b.Selective) && slices.Equal(a.Payload, b.Payload)
}

func sameMessage(a, b api.Message) bool {
	return a.Kind == b.Kind && a.From == b.From && a.To == b.To && a.Number == b.Number && a.Value == b.Value && a.Epoch == b.Epoch && slices.Equal(a.Values, b.Values) && slices.Equal(a.Body, b.Body)
}

// packetError is the error of Check, by the definition of a correct packet.
func packetError(p api.Packet) api.Errno {
	time := func(n int) bool { return n >= 0 && n <= 1073741824 }
	if p.Kind < 0 || p.Kind > 2 {
		return api.ErrArg
	}
	if !time(p.Session) || !time(p.Sequence) || !time(p.Ack) || p.Credit < 0 || p.Credit > 64 {
		return api.ErrRange
	}
	least := p.Ack + 1
	for _, e := range p.Selective {
		// The Start is looked at first, so that the differences are small.
		if e.Start < least || e.Start > p.Ack+64 || e.Count < 1 || e.Count > p.Ack+64-e.Start {
			return api.ErrForm
		}
		least = e.Start + e.Count + 1
	}
	if len(p.Payload) > 4096 {
		return api.ErrLong
	}
	if p.Kind > 0 && len(p.Payload) > 0 {
		return api.ErrForm
	}
	return api.OK
}

// messageError is the error of EncodeMessage, by the definition of a correct message.
func messageError(m api.Message) api.Errno {
	if m.Kind < 1 || m.Kind > 26 {
		return api.ErrArg
	}
	bad := func(n int) bool { return n < 0 || n > most }
	if m.From < 0 || m.From > 1073741824 || m.To < 0 || m.To > 1073741824 || bad(m.Number) || bad(m.Value) || bad(m.Epoch) || slices.ContainsFunc(m.Values, bad) {
		return api.ErrRange
	}
	if len(m.Values) > 4096 {
		return api.ErrMany
	}
	if len(summed(messageParts(m)...)) > 65536 {
		return api.ErrLong
	}
	return api.OK
}

// body are the bytes in front of the sum, or the error of what is no such encoding.
func body(b []byte) ([]byte, api.Errno) {
	if len(b) > 65536 {
		return nil, api.ErrLong
	}
	if len(b) < 4 {
		return nil, api.ErrTorn
	}
	front := b[:len(b)-4]
	if !slices.Equal(summed(front), b) {
		return nil, api.ErrChecksum
	}
	return front, api.OK
}

// readInts reads numbers to their places, and returns the rest.
func readInts(b []byte, places ...*int) ([]byte, api.Errno) {
	var err api.Errno
	for _, place := range places {
		if *place, b, err = wire.Int(b); err != api.OK {
			return nil, err
		}
	}
	return b, api.OK
}

// readPacket is what Decode has to return, by the definitions.
func readPacket(b []byte) (api.Packet, api.Errno) {
	var p api.Packet
	rest, err := body(b)
	if err == api.OK {
		rest, err = readInts(rest, &p.Kind, &p.Session, &p.Sequence, &p.Ack, &p.Credit)
	}
	if err == api.OK {
		p.Selective, rest, err = wire.Extents(rest)
	}
	if err == api.OK {
		p.Payload, rest, err = wire.Bytes(rest)
	}
	if err == api.OK && len(rest) > 0 {
		err = api.ErrForm
	}
	if err == api.OK {
		err = packetError(p)
	}
	if err != api.OK {
		return api.Packet{}, err
	}
	return p, api.OK
}

// readMessage is what DecodeMessage has to return, by the definitions.
func readMessage(b []byte) (api.Message, api.Errno) {
	var m api.Message
	rest, err := body(b)
	if err == api.OK {
		rest, err = readInts(rest, &m.Kind, &m.From, &m.To, &m.Number, &m.Value, &m.Epoch)
	}
	if err == api.OK {
		m.Values, rest, err = wire.Ints(rest)
	}
	if err == api.OK {
		m.Body, rest, err = wire.Bytes(rest)
	}
	if err == api.OK && len(rest) > 0 {
		err = api.ErrForm
	}
	if err == api.OK {
		err = messageError(m)
	}
	if err != api.OK {
		return api.Message{}, err
	}
	return m, api.OK
}

// brief is the beginning of the text of a value.
func brief(value any) string {
	text := fmt.Sprint(value)
	return text[:min(len(text), 300)]
}

func expectPacket(t *testing.T, what string, b []byte, want api.Packet, code api.Errno) {
	t.Helper()
	got, err := packet.Decode(b)
	if err != code || !samePacket(got, want) {
		t.Errorf("%s: Decode of %s: got %s, %d, want %s, %d", what, brief(b), brief(got), err, brief(want), code)
	}
}

func expectMessage(t *testing.T, what string, b []byte, want api.Message, code api.Errno) {
	t.Helper()
	got, err := packet.DecodeMessage(b)
	if err != code || !sameMessage(got, want) {
		t.Errorf("%s: DecodeMessage of %s: got %s, %d, want %s, %d", what, brief(b), brief(got), err, brief(want), code)
	}
}

// expectBytes reports an encoding or an error that is not the wanted one.
func expectBytes(t *testing.T, what string, got []byte, err api.Errno, want []byte, code api.Errno) {
	t.Helper()
	if err != code || !slices.Equal(got, want) {
		t.Errorf("%s: got %s, %d, want %s, %d", what, brief(got), err, brief(want), code)
	}
}

// packets are correct packets.
func packets() []api.Packet {
	whole := api.Packet{Kind: 1, Ack: 3}
	for i := 5; i < 67; i += 2 {
		whole.Selective = append(whole.Selective, api.Extent{Start: i, Count: 1})
	}
	return []api.Packet{
		{}, {Kind: 1}, {Kind: 2}, whole,
		{Kind: 0, Session: 7, Sequence: 127, Payload: []byte{5}},
		{Kind: 0, Session: 128, Sequence: api.MaxTime, Ack: api.MaxTime, Credit: 64, Selective: []api.Extent{{Start: api.MaxTime + 1, Count: 63}}, Payload: text(3, 4096)},
		{Kind: 0, Session: api.MaxTime, Sequence: 1, Ack: 2, Credit: 3, Selective: []api.Extent{{Start: 3, Count: 1}, {Start: 5, Count: 2}, {Start: 65, Count: 1}}, Payload: text(4, 127)},
		{Kind: 0, Payload: text(4, 128)}, {Kind: 0, Payload: text(4, 4095)}, {Kind: 0, Payload: make([]byte, 9)},
		{Kind: 1, Session: 1, Ack: 5, Credit: 8, Selective: []api.Extent{{Start: 7, Count: 2}}},
		{Kind: 1, Session: 300, Sequence: 9, Ack: api.MaxTime - 1, Credit: 1, Selective: []api.Extent{{Start: api.MaxTime, Count: 1}, {Start: api.MaxTime + 62, Count: 1}}},
		{Kind: 2, Session: 8, Sequence: 16384, Ack: 16383, Credit: 63, Selective: []api.Extent{{Start: 16446, Count: 1}}},
		{Kind: 1, Ack: 0, Selective: []api.Extent{{Start: 1, Count: 63}}}, {Kind: 1, Ack: 0, Selective: []api.Extent{{Start: 63, Count: 1}}},
	}
}

// messages are correct messages.
func messages() []api.Message {
	l := []api.Message{
		{Kind: 19, From: api.MaxTime, To: api.MaxTime, Number: most, Value: most, Epoch: most, Values: []int{most, 0, most}, Body: []byte{1, 2, 3}},
		{Kind: 8, From: 1, To: 2, Number: 3, Value: 4, Epoch: 5, Values: []int{6, 127, 128, 300, 1 << 30, 1 << 52}, Body: text(1, 200)},
		{Kind: 3, To: 128, Value: 16384, Values: make([]int, 4096)},
		{Kind: 4, From: 127, Number: api.MaxTime + 1, Epoch: 1 << 31, Values: slices.Repeat([]int{most}, 4096)},
		{Kind: 5, Body: make([]byte, 70)}, {Kind: 6, Values: make([]int, 128)}, {Kind: 7, Values: []int{0}}, {Kind: 7, Body: []byte{0}},
		longest(0), longest(4096),
	}
	for kind := 1; kind <= 26; kind++ {
		l = append(l, api.Message{Kind: kind}, api.Message{Kind: kind, From: 3, To: 1, Number: kind * 99, Value: kind, Epoch: 2 * kind})
	}
	return l
}

// longest is a message with so many Values whose encoding has MaxBytes bytes.
func longest(values int) api.Message {
	m := api.Message{Kind: 26, Values: slices.Repeat([]int{200}, values), Body: make([]byte, 30000)}
	m.Body = text(9, len(m.Body)+65536-len(summed(messageParts(m)...)))
	return m
}

// A fault is a change that makes a packet or a message an incorrect one, with its error.
type fault[T any] struct {
	change func(x *T)
	err    api.Errno
}

// packetFaults are faults of packets, in the order in which they are found.
func packetFaults() []fault[api.Packet] {
	var l []fault[api.Packet]
	add := func(err api.Errno, change func(p *api.Packet)) { l = append(l, fault[api.Packet]{change, err}) }
	for _, n := range []int{3, -1, 4, 256, math.MaxInt, math.MinInt} {
		add(api.ErrArg, func(p *api.Packet) { p.Kind = n })
	}
	for _, n := range []int{api.MaxTime + 1, -1, math.MaxInt, math.MinInt, most} {
		add(api.ErrRange, func(p *api.Packet) { p.Session = n })
		add(api.ErrRange, func(p *api.Packet) { p.Sequence = n })
		add(api.ErrRange, func(p *api.Packet) { p.Ack = n })
	}
	for _, n := range []int{65, -1, api.MaxTime, math.MaxInt, math.MinInt} {
		add(api.ErrRange, func(p *api.Packet) { p.Credit = n })
	}
	for _, e := range [][]api.Extent{{{Start: 0, Count: 0}}, {{Start: 0, Count: 1}}, {{Start: -1, Count: 2}}, {{Start: 1, Count: 64}}, {{Start: 1, Count: -1}}, {{Start: 4, Count: 1}, {Start: 2, Count: 1}}, {{Start: 2, Count: 1}, {Start: 3, Count: 1}}} {
		add(api.ErrForm, func(p *api.Packet) {
			for i := range e {
				p.Selective = append(p.Selective[:i:i], api.Extent{Start: p.Ack + e[i].Start, Count: e[i].Count})
			}
		})
	}
	for _, payload := range [][]byte{text(1, 4097), text(1, 4098), text(1, 70000)} {
		add(api.ErrLong, func(p *api.Packet) { p.Payload = payload })
	}
	for _, payload := range [][]byte{{0}, text(1, 4096)} {
		add(api.ErrForm, func(p *api.Packet) { p.Kind, p.Payload = 1, payload })
		add(api.ErrForm, func(p *api.Packet) { p.Kind, p.Payload = 2, payload })
	}
	return l
}

// messageFaults are faults of messages, in the order in which they are found.
func messageFaults() []fault[api.Message] {
	var l []fault[api.Message]
	add := func(err api.Errno, change func(m *api.Message)) { l = append(l, fault[api.Message]{change, err}) }
	for _, n := range []int{27, 0, -1, 28, 256, math.MaxInt, math.MinInt} {
		add(api.ErrArg, func(m *api.Message) { m.Kind = n })
	}
	for _, n := range []int{api.MaxTime + 1, -1, most, math.MaxInt, math.MinInt} {
		add(api.ErrRange, func(m *api.Message) { m.From = n })
		add(api.ErrRange, func(m *api.Message) { m.To = n })
	}
	for _, n := range []int{most + 1, -1, math.MaxInt, math.MinInt} {
		add(api.ErrRange, func(m *api.Message) { m.Number = n })
		add(api.ErrRange, func(m *api.Message) { m.Value = n })
		add(api.ErrRange, func(m *api.Message) { m.Epoch = n })
		for _, values := range [][]int{{n}, append(make([]int, 70), n, 1), append(make([]int, 4096), n)} {
			add(api.ErrRange, func(m *api.Message) { m.Values = values })
		}
	}
	for _, values := range [][]int{make([]int, 4097), make([]int, 5000), make([]int, 65537)} {
		add(api.ErrMany, func(m *api.Message) { m.Values = values })
	}
	for _, body := range [][]byte{text(1, 65523), text(1, 65536), text(1, 100000)} {
		add(api.ErrLong, func(m *api.Message) { m.Body = body })
	}
	return l
}

func TestP251Check(t *testing.T) {
	for _, p := range packets() {
		if err := packet.Check(p); err != api.OK {
			t.Errorf("Check of %s: got %d", brief(p), err)
		}
	}
}

func TestP251CheckErrors(t *testing.T) {
	faults := packetFaults()
	for _, p := range packets() {
		for i, first := range faults {
			for _, second := range faults[i:] {
				// The later ones are made first, so that they do not remove the earlier ones.
				wrong := p
				second.change(&wrong)
				first.change(&wrong)
				b, err := packet.Encode(wrong)
				if check := packet.Check(wrong); check != first.err || err != first.err || len(b) > 0 {
					t.Errorf("Check and Encode of %s: got %d, %s, %d, want %d", brief(wrong), check, brief(b), err, first.err)
				}
			}
		}
	}
}

// acks are the bounds of Ack, and some other numbers.
func acks() []int {
	return []int{0, 1, 5, 127, 4095, 4096, 5000, api.MaxTime - 64, api.MaxTime - 1, api.MaxTime}
}

func TestP251CheckSelective(t *testing.T) {
	check := func(p api.Packet) {
		t.Helper()
		if got, want := packet.Check(p), packetError(p); got != want {
			t.Errorf("Check of %v: got %d, want %d", p, got, want)
		}
	}
	far := []int{math.MinInt, math.MinInt + 1, math.MinInt + api.MaxTime, math.MinInt + api.MaxTime + 1, -api.MaxTime, api.MaxTime, math.MaxInt - 64, math.MaxInt - 1, math.MaxInt}
	for _, ack := range acks() {
		starts, counts := slices.Clone(far), slices.Clone(far)
		for i := -3; i < 68; i++ {
			starts, counts = append(starts, ack+i), append(counts, i)
		}
		for _, start := range starts {
			for _, count := range counts {
				for kind := range 3 {
					check(api.Packet{Kind: kind, Ack: ack, Selective: []api.Extent{{Start: start, Count: count}}})
				}
				first, last := api.Extent{Start: ack + 2, Count: 3}, api.Extent{Start: ack + 60, Count: 4}
				check(api.Packet{Kind: 1, Ack: ack, Selective: []api.Extent{first, {Start: start, Count: count}}})
				check(api.Packet{Kind: 1, Ack: ack, Selective: []api.Extent{{Start: start, Count: count}, last}})
			}
		}
	}
	next := random(251)
	for range 20000 {
		p := api.Packet{Kind: 1, Ack: acks()[next(len(acks()))]}
		at := p.Ack
		for range next(5) {
			e := api.Extent{Start: at + next(9) - 1, Count: next(8) - next(2)}
			p.Selective = append(p.Selective, e)
			at = e.Start + e.Count
		}
		check(p)
	}
}

func TestP251Encode(t *testing.T) {
	for _, p := range packets() {
		got, err := packet.Encode(p)
		expectBytes(t, "Encode of "+brief(p), got, err, summed(packetParts(p)...), api.OK)
		expectPacket(t, "an encoding", got, p, api.OK)
	}
}

func TestP251Examples(t *testing.T) {
	p := api.Packet{Kind: api.PacketAck, Session: 1, Ack: 5, Credit: 8, Selective: []api.Extent{{Start: 7, Count: 2}}}
	b, err := packet.Encode(p)
	front := []byte{1, 1, 0, 5, 8, 1, 7, 2, 0}
	sum := checksum.Sum(front)
	expectBytes(t, "example 1", b, err, append(front, byte(sum), byte(sum>>8), byte(sum>>16), byte(sum>>24)), api.OK)
	expectPacket(t, "example 1", b, p, api.OK)
	if gaps := packet.Gaps(p); !slices.Equal(gaps, []api.Extent{{Start: 5, Count: 2}}) {
		t.Errorf("example 1: the gaps are %v", gaps)
	}
	p.Selective = []api.Extent{{Start: 5, Count: 2}}
	if err := packet.Check(p); err != api.ErrForm {
		t.Errorf("example 2, at Ack: got %d", err)
	}
	p.Selective = []api.Extent{{Start: 7, Count: 2}, {Start: 9, Count: 1}}
	if err := packet.Check(p); err != api.ErrForm {
		t.Errorf("example 2, adjacent: got %d", err)
	}
}

// frames compares how both kinds of encodings are refused, whatever their parts are.
func frames(t *testing.T, good []byte, expect func(what string, b []byte, code api.Errno)) {
	for n := range 4 {
		expect("fewer than four bytes", make([]byte, n), api.ErrTorn)
		expect("fewer than four bytes", good[:n], api.ErrTorn)
	}
	expect("nothing but its sum", make([]byte, 4), api.ErrTorn)
	for _, b := range [][]byte{{1, 0, 0, 0}, {0, 0, 0, 1}, {0, 128, 0, 0}, {0, 0, 0, 0, 0}} {
		expect("another sum", b, api.ErrChecksum)
	}
	n := len(good) - 4
	for i := range 4 {
		for bit := range 8 {
			b := slices.Clone(good)
			b[n+i] ^= 1 << bit
			expect("another sum", b, api.ErrChecksum)
		}
	}
	turned := slices.Clone(good)
	slices.Reverse(turned[n:])
	expect("the most significant byte of the sum first", turned, api.ErrChecksum)
	expect("without the sum", good[:n], api.ErrChecksum)
	expect("a byte behind the sum", append(slices.Clone(good), 0), api.ErrChecksum)
	for _, length := range []int{65537, 65538, 100000} {
		long := summed(good[:n], make([]byte, length-4-n))
		expect("too many bytes", long, api.ErrLong)
		long[length-1] ^= 1
		expect("too many bytes and another sum", long, api.ErrLong)
	}
	long := summed(good[:n], make([]byte, 65532-n))
	expect("as many bytes as allowed, some of them left", long, api.ErrForm)
	long[0] ^= 255
	expect("as many bytes as allowed, and another sum", long, api.ErrChecksum)
}

// parted compares how both kinds of encodings are refused whose sum is right. The last parts are a list and a byte string.
func parted(t *testing.T, parts [][]byte, expect func(what string, b []byte, code api.Errno)) {
	whole := slices.Concat(parts...)
	for n := range whole {
		expect("a beginning", summed(whole[:n]), api.ErrTorn)
	}
	expect("a byte left", summed(whole, []byte{0}), api.ErrForm)
	expect("bytes left", summed(whole, whole), api.ErrForm)
	list := len(parts) - 2
	for i := range parts {
		front, behind := slices.Concat(parts[:i]...), slices.Concat(parts[i+1:]...)
		for _, x := range []struct {
			bytes []byte
			err   api.Errno
		}{
			{[]byte{128, 0}, api.ErrForm}, {[]byte{129, 128, 0}, api.ErrForm}, {[]byte{255, 255, 255, 255, 255, 255, 255, 16}, api.ErrForm}, {[]byte{128, 128, 128, 128, 128, 128, 128, 128}, api.ErrForm},
			{[]byte{128}, api.ErrTorn}, {[]byte{255, 255, 255}, api.ErrTorn},
		} {
			expect("a wrong part at the end", summed(front, x.bytes), x.err)
			if x.err == api.ErrForm {
				expect("a wrong part", summed(front, x.bytes, behind), x.err)
				expect("a wrong part before one that is torn", summed(front, x.bytes, []byte{128}), x.err)
			}
		}
		if i >= list {
			for _, n := range []int{65537, 1 << 30, most} {
				expect("a part that is too long", summed(front, numbers(n), behind), api.ErrLong)
			}
			expect("a part that ends too early", summed(front, numbers(65536), []byte{5, 6, 7}), api.ErrTorn)
		}
	}
	// What cannot be read comes before what may not be, and so does what is left.
	wrong := slices.Clone(whole)
	wrong[0] = 99
	expect("a wrong kind", summed(wrong), api.ErrArg)
	expect("a wrong kind and a byte left", summed(wrong, []byte{0}), api.ErrForm)
	expect("a wrong kind and a torn part", summed(wrong[:len(wrong)-1]), api.ErrTorn)
}

func TestP251DecodeFrames(t *testing.T) {
	expect := func(what string, b []byte, code api.Errno) {
		t.Helper()
		expectPacket(t, what, b, api.Packet{}, code)
	}
	for _, p := range packets() {
		frames(t, summed(packetParts(p)...), expect)
	}
}

func TestP251DecodeParts(t *testing.T) {
	expect := func(what string, b []byte, code api.Errno) {
		t.Helper()
		expectPacket(t, what, b, api.Packet{}, code)
	}
	for _, p := range []api.Packet{packets()[4], packets()[6], {Payload: text(1, 9), Selective: []api.Extent{{Start: 1, Count: 3}}}} {
		parted(t, packetParts(p), expect)
	}
	front := slices.Concat(packetParts(api.Packet{Session: 3})[:5]...)
	for _, extents := range [][]byte{{1, 128, 0, 1}, {1, 1, 128, 0}, {2, 1, 1, 3, 128, 0}} {
		expect("a wrong number in an extent", summed(front, extents, []byte{0}), api.ErrForm)
	}
	expect("an extent without a Count", summed(front, []byte{1, 5}), api.ErrTorn)
}

// encodable reports whether all numbers of a packet have an encoding.
func encodable(p api.Packet) bool {
	l := []int{p.Kind, p.Session, p.Sequence, p.Ack, p.Credit}
	for _, e := range p.Selective {
		l = append(l, e.Start, e.Count)
	}
	return !slices.ContainsFunc(l, func(n int) bool { return n < 0 || n > most })
}

func TestP251DecodeIncorrect(t *testing.T) {
	for _, p := range packets() {
		for _, f := range packetFaults() {
			wrong := p
			f.change(&wrong)
			if b := summed(packetParts(wrong)...); encodable(wrong) && len(b) <= api.MaxBytes {
				expectPacket(t, "an incorrect packet", b, api.Packet{}, f.err)
			}
		}
	}
	long := api.Packet{Session: 1}
	for _, n := range []int{4097, 65000, 65522, 65523} {
		long.Payload = text(2, n)
		expectPacket(t, "a long payload", summed(packetParts(long)...), api.Packet{}, api.ErrLong)
	}
	long.Kind = 1
	expectPacket(t, "a long payload of another kind", summed(packetParts(long)...), api.Packet{}, api.ErrLong)
	long.Kind = 3
	expectPacket(t, "a long payload of no kind", summed(packetParts(long)...), api.Packet{}, api.ErrArg)
}

// mutated are the bytes of parts in which some were changed, removed or inserted.
func mutated(next func(n int) int, parts [][]byte) []byte {
	b := slices.Concat(parts...)
	for range next(3) {
		i := next(len(b))
		switch next(4) {
		case 0:
			b[i] = byte(next(256) >> next(9))
		case 1:
			b[i] ^= 128
		case 2:
			b = slices.Delete(b, i, i+1)
		default:
			b = slices.Insert(b, i, byte(next(256)>>next(9)))
		}
		if len(b) == 0 {
			return b
		}
	}
	return b
}

func TestP251DecodeAnything(t *testing.T) {
	next := random(2511)
	all := packets()
	seen := map[api.Errno]int{}
	for range 40000 {
		p := all[next(len(all))]
		if len(p.Payload) > 200 {
			p.Payload = p.Payload[:next(9)]
		}
		b := summed(mutated(next, packetParts(p)))
		if next(50) == 0 {
			b[next(len(b))] ^= 1
		}
		want, code := readPacket(b)
		expectPacket(t, "any bytes", b, want, code)
		seen[code]++
	}
	for _, code := range []api.Errno{api.OK, api.ErrArg, api.ErrRange, api.ErrForm, api.ErrTorn, api.ErrChecksum, api.ErrLong} {
		if seen[code] < 20 {
			t.Errorf("only %d of the tests have the error %d", seen[code], code)
		}
	}
}

// gapsOf are the gaps of a correct packet, number by number.
func gapsOf(p api.Packet) []api.Extent {
	var gaps []api.Extent
	if len(p.Selective) == 0 {
		return nil
	}
	last := p.Selective[len(p.Selective)-1]
	for n := p.Ack; n < last.Start+last.Count; n++ {
		if slices.ContainsFunc(p.Selective, func(e api.Extent) bool { return e.Start <= n && n < e.Start+e.Count }) {
			continue
		}
		if k := len(gaps) - 1; k >= 0 && gaps[k].Start+gaps[k].Count == n {
			gaps[k].Count++
		} else {
			gaps = append(gaps, api.Extent{Start: n, Count: 1})
		}
	}
	return gaps
}

// selective is a correct packet with some Selective.
func selective(next func(n int) int) api.Packet {
	p := api.Packet{Kind: next(3), Ack: acks()[next(len(acks()))], Session: next(1000), Sequence: next(1000), Credit: next(65)}
	for at := p.Ack + 1 + next(20); at < p.Ack+64; at++ {
		e := api.Extent{Start: at, Count: min(1+next(12), p.Ack+64-at)}
		p.Selective = append(p.Selective, e)
		at = e.Start + e.Count + next(10)
	}
	if p.Kind == 0 {
		p.Payload = text(next(256), next(20))
	}
	return p
}

func TestP251Gaps(t *testing.T) {
	expect := func(p api.Packet, want []api.Extent) {
		t.Helper()
		if got := packet.Gaps(p); !slices.Equal(got, want) {
			t.Errorf("Gaps of %s: got %v, want %v", brief(p), got, want)
		}
	}
	for _, p := range packets() {
		expect(p, gapsOf(p))
		p.Selective = nil
		expect(p, nil)
		p.Selective = []api.Extent{{Start: p.Ack + 1, Count: 1}}
		expect(p, []api.Extent{{Start: p.Ack, Count: 1}})
		p.Selective = []api.Extent{{Start: p.Ack + 63, Count: 1}}
		expect(p, []api.Extent{{Start: p.Ack, Count: 63}})
		p.Selective = []api.Extent{{Start: p.Ack + 2, Count: 3}, {Start: p.Ack + 6, Count: 1}, {Start: p.Ack + 9, Count: 2}}
		expect(p, []api.Extent{{Start: p.Ack, Count: 2}, {Start: p.Ack + 5, Count: 1}, {Start: p.Ack + 7, Count: 2}})
		for _, f := range packetFaults() {
			wrong := p
			f.change(&wrong)
			expect(wrong, nil)
		}
	}
	next := random(2512)
	for range 2000 {
		p := selective(next)
		expect(p, gapsOf(p))
	}
}

func TestP252Encode(t *testing.T) {
	for _, m := range messages() {
		got, err := packet.EncodeMessage(m)
		expectBytes(t, "EncodeMessage of "+brief(m), got, err, summed(messageParts(m)...), api.OK)
		expectMessage(t, "an encoding", got, m, api.OK)
	}
}

func TestP252EncodeErrors(t *testing.T) {
	faults := messageFaults()
	for _, m := range []api.Message{{Kind: 1}, messages()[0], messages()[1], messages()[3], longest(17)} {
		for i, first := range faults {
			for _, second := range faults[i:] {
				// The later ones are made first, so that they do not remove the earlier ones.
				wrong := m
				second.change(&wrong)
				first.change(&wrong)
				if b, err := packet.EncodeMessage(wrong); err != first.err || len(b) > 0 {
					t.Errorf("EncodeMessage of %s: got %s, %d, want %d", brief(wrong), brief(b), err, first.err)
				}
			}
		}
	}
}

func TestP252EncodeLong(t *testing.T) {
	for _, values := range []int{0, 1, 127, 128, 4096} {
		m := longest(values)
		b, err := packet.EncodeMessage(m)
		expectBytes(t, "the longest message", b, err, summed(messageParts(m)...), api.OK)
		if len(b) != api.MaxBytes {
			t.Errorf("the longest message has %d bytes", len(b))
		}
		longer := m
		longer.Body = append(slices.Clone(m.Body), 0)
		b, err = packet.EncodeMessage(longer)
		expectBytes(t, "a longer body", b, err, nil, api.ErrLong)
		longer = m
		longer.Epoch = 128
		b, err = packet.EncodeMessage(longer)
		expectBytes(t, "a longer number", b, err, nil, api.ErrLong)
	}
}

func TestP252Examples(t *testing.T) {
	b, err := packet.EncodeMessage(api.Message{Kind: 27})
	expectBytes(t, "the kind 27", b, err, nil, api.ErrArg)
	b, err = packet.EncodeMessage(api.Message{Kind: 1, Value: -1})
	expectBytes(t, "the value -1", b, err, nil, api.ErrRange)
}

func TestP252DecodeFrames(t *testing.T) {
	expect := func(what string, b []byte, code api.Errno) {
		t.Helper()
		expectMessage(t, what, b, api.Message{}, code)
	}
	for _, m := range messages() {
		// The others have no room for bytes that are left.
		if b := summed(messageParts(m)...); len(b) < 60000 {
			frames(t, b, expect)
		}
	}
}

func TestP252DecodeParts(t *testing.T) {
	expect := func(what string, b []byte, code api.Errno) {
		t.Helper()
		expectMessage(t, what, b, api.Message{}, code)
	}
	for _, m := range []api.Message{messages()[0], messages()[1], {Kind: 1, Values: []int{1}, Body: []byte{2}}} {
		parted(t, messageParts(m), expect)
	}
	front := slices.Concat(messageParts(api.Message{Kind: 3})[:6]...)
	for _, values := range [][]byte{{1, 128, 0}, {3, 1, 128, 0, 128}} {
		expect("a wrong number in a list", summed(front, values, []byte{0}), api.ErrForm)
	}
	expect("a list without its last number", summed(front, []byte{2, 5}), api.ErrTorn)
}

func TestP252DecodeIncorrect(t *testing.T) {
	for _, x := range []struct {
		m   api.Message
		err api.Errno
	}{
		{api.Message{}, api.ErrArg}, {api.Message{Kind: 27}, api.ErrArg}, {api.Message{Kind: most, From: most, Values: make([]int, 5000)}, api.ErrArg},
		{api.Message{Kind: 26, From: api.MaxTime + 1}, api.ErrRange}, {api.Message{Kind: 1, To: api.MaxTime + 1}, api.ErrRange}, {api.Message{Kind: 1, To: most, Values: make([]int, 5000)}, api.ErrRange},
		{api.Message{Kind: 1, Values: make([]int, 4097)}, api.ErrMany}, {api.Message{Kind: 1, Values: make([]int, 65000)}, api.ErrMany}, {api.Message{Kind: 1, Values: slices.Repeat([]int{most}, 4097)}, api.ErrMany},
	} {
		expectMessage(t, "an incorrect message", summed(messageParts(x.m)...), api.Message{}, x.err)
	}
}

func TestP252DecodeAnything(t *testing.T) {
	next := random(2520)
	all := messages()
	seen := map[api.Errno]int{}
	for range 40000 {
		m := all[next(len(all))]
		m.Values, m.Body = m.Values[:min(len(m.Values), next(9))], m.Body[:min(len(m.Body), next(9))]
		if next(20) == 0 {
			m.To = api.MaxTime + next(3)
		}
		b := summed(mutated(next, messageParts(m)))
		if next(50) == 0 {
			b[next(len(b))] ^= 1
		}
		want, code := readMessage(b)
		expectMessage(t, "any bytes", b, want, code)
		seen[code]++
	}
	for _, code := range []api.Errno{api.OK, api.ErrArg, api.ErrRange, api.ErrForm, api.ErrTorn, api.ErrChecksum} {
		if seen[code] < 20 {
			t.Errorf("only %d of the tests have the error %d", seen[code], code)
		}
	}
}

func TestP253RoundTrip(t *testing.T) {
	next := random(253)
	number := func(bound int) int { return (next(1<<24)<<30 + next(1<<24)<<8 + next(256)) >> next(54) % bound }
	for range 3000 {
		p := selective(next)
		p.Session, p.Sequence = number(api.MaxTime+1), number(api.MaxTime+1)
		b, err := packet.Encode(p)
		if err != api.OK {
			t.Fatalf("Encode of %v: got %d", p, err)
		}
		expectPacket(t, "an encoding", b, p, api.OK)
		m := api.Message{Kind: 1 + next(26), From: number(api.MaxTime + 1), To: number(api.MaxTime + 1), Number: number(most + 1), Value: number(most + 1), Epoch: number(most + 1), Body: text(next(256), next(40))}
		for range next(9) {
			m.Values = append(m.Values, number(most+1))
		}
		b, err = packet.EncodeMessage(m)
		if err != api.OK {
			t.Fatalf("EncodeMessage of %v: got %d", m, err)
		}
		expectMessage(t, "an encoding", b, m, api.OK)
	}
}

// What is decoded is encoded as it was: there is no other encoding.
func TestP253NoOther(t *testing.T) {
	next := random(2530)
	decoded := 0
	for range 40000 {
		parts := packetParts(selective(next))
		other := messageParts(api.Message{Kind: 1 + next(26), Values: []int{next(300)}, Body: text(1, next(3))})
		for _, b := range [][]byte{summed(mutated(next, parts)), summed(mutated(next, other))} {
			if p, err := packet.Decode(b); err == api.OK {
				decoded++
				again, err := packet.Encode(p)
				expectBytes(t, "Encode of what was decoded", again, err, b, api.OK)
			}
			if m, err := packet.DecodeMessage(b); err == api.OK {
				decoded++
				again, err := packet.EncodeMessage(m)
				expectBytes(t, "EncodeMessage of what was decoded", again, err, b, api.OK)
			}
		}
	}
	if decoded < 10000 {
		t.Errorf("only %d encodings were decoded", decoded)
	}
}

// changes calls a function for an encoding with each change of one byte; of long ones, with some of them.
func changes(b []byte, try func(wrong []byte)) {
	step := 1 + len(b)/200
	for i := 0; i < len(b); i += step {
		for change := 1; change < 256; change += step {
			wrong := slices.Clone(b)
			wrong[i] ^= byte(change)
			try(wrong)
		}
	}
}

func TestP253Changed(t *testing.T) {
	for _, p := range packets() {
		b, _ := packet.Encode(p)
		changes(b, func(wrong []byte) { expectPacket(t, "a changed byte", wrong, api.Packet{}, api.ErrChecksum) })
	}
	for _, m := range messages()[:16] {
		b, _ := packet.EncodeMessage(m)
		changes(b, func(wrong []byte) { expectMessage(t, "a changed byte", wrong, api.Message{}, api.ErrChecksum) })
	}
}

func TestP253Gaps(t *testing.T) {
	in := func(l []api.Extent, n int) bool {
		return slices.ContainsFunc(l, func(e api.Extent) bool { return e.Start <= n && n < e.Start+e.Count })
	}
	next := random(2531)
	for range 2000 {
		p := selective(next)
		gaps := packet.Gaps(p)
		if len(p.Selective) == 0 {
			if len(gaps) > 0 {
				t.Errorf("gaps without Selective: %v", gaps)
			}
			continue
		}
		last := p.Selective[len(p.Selective)-1]
		for n := p.Ack - 2; n < p.Ack+70; n++ {
			inside := n >= p.Ack && n < last.Start+last.Count
			if in(gaps, n) != (inside && !in(p.Selective, n)) {
				t.Errorf("%v: the gaps %v are wrong at %d", p, gaps, n)
			}
		}
		if !in(gaps, p.Ack) {
			t.Errorf("%v: Ack is not in the gaps %v", p, gaps)
		}
		for i := range gaps {
			if gaps[i].Count < 1 || i > 0 && gaps[i].Start <= gaps[i-1].Start+gaps[i-1].Count {
				t.Errorf("%v: the gaps %v are not canonical", p, gaps)
			}
		}
	}
}

func TestValues(t *testing.T) {
	extents := []api.Extent{{Start: 7, Count: 2}, {Start: 11, Count: 1}, {Start: 99, Count: 99}}
	payload := text(1, 20)
	p := api.Packet{Session: 3, Ack: 5, Selective: extents[:2], Payload: payload[:9]}
	want := api.Packet{Session: 3, Ack: 5, Selective: slices.Clone(extents[:2]), Payload: text(1, 9)}
	b, _ := packet.Encode(p)
	gaps := packet.Gaps(p)
	if !samePacket(p, want) || extents[2] != (api.Extent{Start: 99, Count: 99}) || !slices.Equal(payload, text(1, 20)) {
		t.Errorf("a packet is modified: %v", p)
	}
	clear(gaps[:cap(gaps)])
	clear(extents)
	clear(payload)
	if !slices.Equal(b, summed(packetParts(want)...)) {
		t.Errorf("an encoding after a change of the packet: %v", b)
	}
	spare := append(slices.Clone(b), 1, 2, 3, 4, 5, 6, 7, 8)
	got, err := packet.Decode(spare[:len(b)])
	if !slices.Equal(spare, append(slices.Clone(b), 1, 2, 3, 4, 5, 6, 7, 8)) {
		t.Errorf("Decode modifies its argument")
	}
	clear(spare)
	if err != api.OK || !samePacket(got, want) {
		t.Errorf("a packet after a change of its encoding: %v", got)
	}
}

func TestValuesOfMessages(t *testing.T) {
	values, body := []int{1, 2, 3, 4}, text(1, 20)
	m := api.Message{Kind: 3, Values: values[:3], Body: body[:9]}
	want := api.Message{Kind: 3, Values: []int{1, 2, 3}, Body: text(1, 9)}
	b, _ := packet.EncodeMessage(m)
	if !sameMessage(m, want) || values[3] != 4 || !slices.Equal(body, text(1, 20)) {
		t.Errorf("a message is modified: %v", m)
	}
	clear(values)
	clear(body)
	if !slices.Equal(b, summed(messageParts(want)...)) {
		t.Errorf("an encoding after a change of the message: %v", b)
	}
	spare := append(slices.Clone(b), 1, 2, 3, 4, 5, 6, 7, 8)
	got, err := packet.DecodeMessage(spare[:len(b)])
	if !slices.Equal(spare, append(slices.Clone(b), 1, 2, 3, 4, 5, 6, 7, 8)) {
		t.Errorf("DecodeMessage modifies its argument")
	}
	clear(spare)
	if err != api.OK || !sameMessage(got, want) {
		t.Errorf("a message after a change of its encoding: %v", got)
	}
}
