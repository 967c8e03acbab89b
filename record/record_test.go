package record_test

import (
	"math"
	"slices"
	"testing"

	"standby/api"
	"standby/checksum"
	"standby/record"
)

// random returns numbers from 0 to n - 1 that look random.
func random(seed uint32) func(n int) int {
	return func(n int) int {
		seed = seed*1664525 + 1013904223
		return int(seed>>8) % n
	}
}

// text is a payload of some bytes that depend on a number.
func text(n, length int) []byte {
	var l []byte
	for i := range length {
		l = append(l, byte(n+i*7))
	}
	return l
}

// packed are the sectors with a number that contain the bytes of a stream.
func packed(number int, stream []byte) []api.Sector {
	var l []api.Sector
	for i := 0; i < len(stream); i += 4 {
		n := uint32(number)
		l = append(l, api.Sector{byte(n), byte(n >> 8), byte(n >> 16), byte(n >> 24), stream[i], stream[i+1], stream[i+2], stream[i+3]})
	}
	return l
}

// summed is the stream of the bytes that have a sum, with the bytes behind it, filled up with zeros.
func summed(before []byte, behind ...byte) []byte {
	sum := checksum.Sum(before)
	stream := slices.Concat(before, []byte{byte(sum), byte(sum >> 8), byte(sum >> 16), byte(sum >> 24)}, behind)
	for len(stream)%4 > 0 {
		stream = append(stream, 0)
	}
	return stream
}

// streamOf is the stream with a kind and a payload.
func streamOf(kind int, payload []byte) []byte {
	n := len(payload)
	return summed(slices.Concat([]byte{byte(kind), byte(n), byte(n >> 8)}, payload))
}

// sectorsOf are the sectors of a record.
func sectorsOf(kind, sequence int, payload []byte) []api.Sector {
	return packed(sequence, streamOf(kind, payload))
}

// numberAt is the number of a sector.
func numberAt(s api.Sector) int {
	return int(s[0]) + int(s[1])<<8 + int(s[2])<<16 + int(s[3])<<24
}

// decoded is what Decode has to return, by the definitions.
func decoded(l []api.Sector) (api.Record, int, api.Errno) {
	if len(l) == 0 {
		return api.Record{}, 0, api.ErrTorn
	}
	number, length := numberAt(l[0]), int(l[0][5])+int(l[0][6])<<8
	if number == 0 {
		return api.Record{}, 0, api.ErrNone
	}
	if length > api.MaxPayload {
		return api.Record{}, 0, api.ErrLong
	}
	var stream []byte
	for i := 0; len(stream) < 7+length; i++ {
		if i == len(l) || numberAt(l[i]) != number {
			return api.Record{}, 0, api.ErrTorn
		}
		stream = append(stream, l[i][4:]...)
	}
	for i, b := range summed(stream[:3+length])[3+length:][:4] {
		if stream[3+length+i] != b {
			return api.Record{}, 0, api.ErrChecksum
		}
	}
	if stream[0] == 0 || slices.Max(append(stream[7+length:], 0)) > 0 {
		return api.Record{}, 0, api.ErrForm
	}
	return api.Record{Kind: int(stream[0]), Sequence: number, Payload: stream[3 : 3+length]}, len(stream) / 4, api.OK
}

func same(a, b api.Record) bool {
	return a.Kind == b.Kind && a.Sequence == b.Sequence && slices.Equal(a.Payload, b.Payload)
}

func expectDecode(t *testing.T, what string, l []api.Sector, r api.Record, n int, code api.Errno) {
	t.Helper()
	got, count, err := record.Decode(l)
	if err != code || count != n || !same(got, r) {
		t.Errorf("%s: Decode: got %v, %d, %d, want %v, %d, %d", what, got, count, err, r, n, code)
	}
}

func expectError(t *testing.T, what string, l []api.Sector, code api.Errno) {
	t.Helper()
	expectDecode(t, what, l, api.Record{}, 0, code)
}

// expectModel compares Decode with the definitions.
func expectModel(t *testing.T, what string, l []api.Sector) {
	t.Helper()
	r, n, err := decoded(l)
	expectDecode(t, what, l, r, n, err)
}

func TestP131Size(t *testing.T) {
	for length := range api.MaxPayload + 1 {
		want := 0
		for 4*want < 7+length {
			want++
		}
		if got := record.Size(length); got != want {
			t.Errorf("Size(%d): got %d, want %d", length, got, want)
		}
	}
	for _, length := range []int{-1, -2, -7, -8, math.MinInt, 4097, 4098, 65535, 65536, math.MaxInt, math.MaxInt - 10} {
		if got := record.Size(length); got != 0 {
			t.Errorf("Size(%d): got %d", length, got)
		}
	}
}

func TestP131SizeExamples(t *testing.T) {
	for _, x := range [][2]int{{0, 2}, {1, 2}, {2, 3}, {5, 3}, {4096, 1026}} {
		if got := record.Size(x[0]); got != x[1] {
			t.Errorf("Size(%d): got %d, want %d", x[0], got, x[1])
		}
	}
}

// lengths are lengths of payloads for all lengths of the padding, and around those whose second byte changes.
func lengths() []int {
	var l []int
	for n := range 20 {
		l = append(l, n)
	}
	return append(l, 254, 255, 256, 257, 511, 512, 1000, 4091, 4092, 4093, 4094, 4095, 4096)
}

// sequences are sequence numbers.
func sequences() []int {
	return []int{1, 2, 255, 256, 258, 1 << 16, 1 << 24, api.MaxTime, 1<<31 - 1, 1 << 31, math.MaxUint32 - 1, math.MaxUint32}
}

func TestP131Encode(t *testing.T) {
	for _, length := range lengths() {
		for i, sequence := range sequences() {
			for _, kind := range []int{1, 2, 7, 128, 254, 255} {
				payload := text(i+kind, length)
				got, err := record.Encode(api.Record{Kind: kind, Sequence: sequence, Payload: payload})
				want := sectorsOf(kind, sequence, payload)
				if err != api.OK || !slices.Equal(got, want) {
					t.Errorf("Encode of kind %d, sequence %d, %d bytes: got %v, %d, want %v", kind, sequence, length, got, err, want)
				}
				if len(got) != record.Size(length) {
					t.Errorf("a record with %d bytes has %d sectors, Size is %d", length, len(got), record.Size(length))
				}
			}
		}
	}
}

func TestP131EncodeErrors(t *testing.T) {
	wrong := []api.Record{}
	for _, kind := range []int{0, -1, 256, 257, math.MinInt, math.MaxInt} {
		for _, sequence := range []int{1, 0, math.MaxUint32, math.MaxInt} {
			wrong = append(wrong, api.Record{Kind: kind, Sequence: sequence})
		}
	}
	for _, sequence := range []int{0, -1, -1 << 32, 1<<32 + 1, 1 << 32, math.MinInt, math.MaxInt} {
		for _, kind := range []int{1, 255, 256} {
			wrong = append(wrong, api.Record{Kind: kind, Sequence: sequence})
		}
	}
	for _, r := range wrong {
		// The ranges are checked before the payload.
		for _, length := range []int{0, 4096, 4097} {
			r.Payload = text(1, length)
			if got, err := record.Encode(r); err != api.ErrRange || len(got) > 0 {
				t.Errorf("Encode of kind %d, sequence %d: got %v, %d", r.Kind, r.Sequence, got, err)
			}
		}
	}
	for _, length := range []int{4097, 4098, 65535, 65536, 70000} {
		for _, sequence := range sequences() {
			got, err := record.Encode(api.Record{Kind: 255, Sequence: sequence, Payload: text(1, length)})
			if err != api.ErrLong || len(got) > 0 {
				t.Errorf("Encode of %d bytes: got %v, %d", length, got, err)
			}
		}
	}
}

func TestP131Example1(t *testing.T) {
	got, err := record.Encode(api.Record{Kind: 7, Sequence: 258, Payload: []byte{1, 2}})
	// The sum of the bytes 7 2 0 1 2 by the definition of layer 4.
	sum := checksum.Sum([]byte{7, 2, 0, 1, 2})
	want := []api.Sector{
		{2, 1, 0, 0, 7, 2, 0, 1},
		{2, 1, 0, 0, 2, byte(sum), byte(sum >> 8), byte(sum >> 16)},
		{2, 1, 0, 0, byte(sum >> 24), 0, 0, 0},
	}
	if err != api.OK || !slices.Equal(got, want) {
		t.Errorf("got %v, %d, want %v", got, err, want)
	}
	expectDecode(t, "the example", got, api.Record{Kind: 7, Sequence: 258, Payload: []byte{1, 2}}, 3, api.OK)
}

func TestP132Decode(t *testing.T) {
	for _, length := range lengths() {
		for i, sequence := range sequences() {
			r := api.Record{Kind: 1 + (length*37+i*60)%255, Sequence: sequence, Payload: text(i, length)}
			l := sectorsOf(r.Kind, r.Sequence, r.Payload)
			expectDecode(t, "a record", l, r, len(l), api.OK)
			expectDecode(t, "a record and zeros", append(l[:len(l):len(l)], api.Sector{}), r, len(l), api.OK)
			expectDecode(t, "a record twice", append(l[:len(l):len(l)], l...), r, len(l), api.OK)
			expectError(t, "a record without its last sector", l[:len(l)-1], api.ErrTorn)
		}
	}
}

func TestP132DecodeNone(t *testing.T) {
	expectError(t, "nothing", nil, api.ErrTorn)
	expectError(t, "nothing", []api.Sector{}, api.ErrTorn)
	// The number is looked at before everything else.
	for _, s := range []api.Sector{{}, {0, 0, 0, 0, 1}, {0, 0, 0, 0, 1, 255, 255, 9}, {0, 0, 0, 0, 0, 1, 16}} {
		expectError(t, "the number 0", []api.Sector{s}, api.ErrNone)
		expectError(t, "the number 0", append([]api.Sector{s}, sectorsOf(1, 1, nil)...), api.ErrNone)
	}
	expectError(t, "a record with the number 0", sectorsOf(7, 0, text(1, 9)), api.ErrNone)
}

func TestP132DecodeLong(t *testing.T) {
	for _, length := range []int{4097, 4098, 4099, 5000, 8192, 32768, 65535} {
		l := sectorsOf(7, 9, text(1, length))
		expectError(t, "a long payload", l, api.ErrLong)
		// It does not matter which sectors there are.
		expectError(t, "a long payload, one sector", l[:1], api.ErrLong)
		l[1] = api.Sector{}
		expectError(t, "a long payload, another number", l, api.ErrLong)
		l[0][4] = 0
		expectError(t, "a long payload of the kind 0", l, api.ErrLong)
	}
}

func TestP132DecodeTorn(t *testing.T) {
	for _, length := range []int{0, 1, 2, 5, 6, 9, 30, 4096} {
		for _, kind := range []int{7, 0} {
			l := sectorsOf(kind, 0x01020304, text(3, length))
			step := max(1, len(l)/20)
			for n := 1; n < len(l); n += step {
				expectError(t, "a part of a record", l[:n], api.ErrTorn)
			}
			for i := 1; i < len(l); i += step {
				for k := range 4 {
					for _, change := range []byte{1, 128, 255, l[i][k]} {
						torn := slices.Clone(l)
						torn[i][k] ^= change
						expectError(t, "another number", torn, api.ErrTorn)
						// A wrong sum is found later.
						torn[len(l)-1][4] ^= 1
						expectError(t, "another number and a wrong sum", torn, api.ErrTorn)
					}
				}
				torn := slices.Clone(l)
				torn[i] = api.Sector{}
				expectError(t, "a zero sector", torn, api.ErrTorn)
			}
		}
	}
}

func TestP132DecodeChecksum(t *testing.T) {
	for _, length := range []int{0, 1, 2, 3, 4, 5, 6, 9, 30} {
		for _, kind := range []int{7, 0} {
			stream := streamOf(kind, text(3, length))
			for i := 3; i < 7+length; i++ {
				for _, change := range []byte{1, 16, 128, 255} {
					wrong := slices.Clone(stream)
					wrong[i] ^= change
					expectError(t, "a changed byte", packed(5, wrong), api.ErrChecksum)
					// What stands behind the sum is looked at later.
					if i < len(wrong)-1 {
						wrong[len(wrong)-1] ^= 1
						expectError(t, "two changed bytes", packed(5, wrong), api.ErrChecksum)
					}
				}
			}
			stream[0] ^= 7
			expectError(t, "a changed kind", packed(5, stream), api.ErrChecksum)
		}
	}
	expectError(t, "no sum", []api.Sector{{1, 0, 0, 0, 1}, {1}}, api.ErrChecksum)
}

func TestP132DecodeForm(t *testing.T) {
	for _, length := range lengths() {
		expectError(t, "the kind 0", sectorsOf(0, 5, text(1, length)), api.ErrForm)
		stream := streamOf(9, text(1, length))
		for i := 7 + length; i < len(stream); i++ {
			for _, b := range []byte{1, 128, 255} {
				wrong := slices.Clone(stream)
				wrong[i] = b
				expectError(t, "padding", packed(5, wrong), api.ErrForm)
			}
		}
	}
	// The sum of the padding does not help.
	expectError(t, "padding", packed(5, summed([]byte{9, 2, 0, 1, 2}, 0, 0, 1)), api.ErrForm)
}

func TestP132DecodeAnything(t *testing.T) {
	for seed := range 3000 {
		next := random(uint32(seed))
		var l []api.Sector
		for range next(3) {
			l = append(l, sectorsOf(next(4), next(3), text(next(256), next(12)))...)
		}
		for range next(4) {
			if len(l) > 0 {
				l[next(len(l))][next(8)] = byte(next(256) >> next(9))
			}
		}
		for i := range l {
			expectModel(t, "sectors", l[i:])
			expectModel(t, "some sectors", l[:i])
		}
		single := api.Sector{byte(next(2)), 0, 0, 0, byte(next(3)), byte(next(3)), byte(next(17)), byte(next(9))}
		expectModel(t, "a sector", []api.Sector{single})
		expectModel(t, "a sector before others", append([]api.Sector{single}, l...))
	}
}

// scanned is what Scan has to return, by the definitions.
func scanned(l []api.Sector, sequence int) ([]api.Record, int) {
	var records []api.Record
	n := 0
	for sequence >= 1 {
		r, size, err := decoded(l[n:])
		if err != api.OK || r.Sequence != sequence {
			break
		}
		records, n, sequence = append(records, r), n+size, sequence+1
	}
	return records, n
}

func expectScan(t *testing.T, what string, l []api.Sector, sequence int, want []api.Record, n int) {
	t.Helper()
	got, count := record.Scan(l, sequence)
	if count != n || !slices.EqualFunc(got, want, same) {
		t.Errorf("%s: Scan from %d: got %v, %d, want %v, %d", what, sequence, got, count, want, n)
	}
}

// recordsOf are records with the sequence numbers of a list.
func recordsOf(sequences ...int) []api.Record {
	var l []api.Record
	for i, n := range sequences {
		l = append(l, api.Record{Kind: 1 + i%255, Sequence: n, Payload: text(n, i*5%14)})
	}
	return l
}

// joined are the sectors of records, one behind the other.
func joined(records []api.Record) []api.Sector {
	var l []api.Sector
	for _, r := range records {
		l = append(l, sectorsOf(r.Kind, r.Sequence, r.Payload)...)
	}
	return l
}

func TestP132Scan(t *testing.T) {
	expectScan(t, "nothing", nil, 1, nil, 0)
	for _, x := range []struct {
		sequences []int
		from, n   int
	}{
		{[]int{1}, 1, 1}, {[]int{1}, 2, 0}, {[]int{2}, 1, 0}, {[]int{1, 2, 3}, 1, 3}, {[]int{1, 2, 3}, 2, 0},
		{[]int{1, 3}, 1, 1}, {[]int{5, 6, 8, 9}, 5, 2}, {[]int{5, 5}, 5, 1}, {[]int{5, 6, 5, 6}, 5, 2}, {[]int{5, 4}, 5, 1}, {[]int{4, 5}, 5, 0},
		{[]int{255, 256, 257}, 255, 3}, {[]int{65535, 65536}, 65535, 2}, {[]int{1<<24 - 1, 1 << 24}, 1<<24 - 1, 2},
		{[]int{api.MaxTime - 1, api.MaxTime, api.MaxTime + 1}, api.MaxTime - 1, 3},
		{[]int{math.MaxUint32 - 1, math.MaxUint32}, math.MaxUint32 - 1, 2}, {[]int{math.MaxUint32, 1}, math.MaxUint32, 1}, {[]int{math.MaxUint32, math.MaxUint32}, math.MaxUint32, 1},
	} {
		records := recordsOf(x.sequences...)
		n := len(joined(records[:x.n]))
		for _, behind := range [][]api.Sector{nil, {{}}, {{1, 2, 3}}, sectorsOf(1, 1, nil)[:1]} {
			expectScan(t, "records", append(joined(records), behind...), x.from, records[:x.n], n)
		}
	}
	l := joined(recordsOf(1, 2, 3))
	for _, sequence := range []int{0, -1, -2, math.MinInt, math.MaxInt, math.MaxInt - 1, 1<<32 + 1, 1 - 1<<32, 4} {
		expectScan(t, "another sequence number", l, sequence, nil, 0)
		expectScan(t, "the number 0", packed(0, streamOf(1, nil)), sequence, nil, 0)
	}
}

// A record that is damaged ends the records before it.
func TestP132ScanOfDamaged(t *testing.T) {
	records := recordsOf(7, 8, 9, 10)
	l := joined(records)
	for n := range l {
		want, count := scanned(l[:n], 7)
		expectScan(t, "some sectors", l[:n], 7, want, count)
		for k := range 8 {
			for _, change := range []byte{1, 128} {
				wrong := slices.Clone(l)
				wrong[n][k] ^= change
				want, count := scanned(wrong, 7)
				expectScan(t, "a changed byte", wrong, 7, want, count)
				if len(want) >= len(records) {
					t.Fatalf("the model does not see a changed byte")
				}
			}
		}
	}
	kind0 := slices.Concat(joined(records[:1]), sectorsOf(0, 8, nil), joined(records[1:]))
	expectScan(t, "the kind 0", kind0, 7, records[:1], len(joined(records[:1])))
}

func TestP133Decode(t *testing.T) {
	next := random(33)
	for range 400 {
		r := api.Record{Kind: 1 + next(255), Sequence: 1 + next(1<<24)*next(257), Payload: text(next(256), next(60))}
		l, err := record.Encode(r)
		if err != api.OK {
			t.Fatalf("Encode: got %d", err)
		}
		n := len(l)
		for range next(6) {
			l = append(l, api.Sector{byte(next(256)), byte(next(2)), 0, 0, byte(next(256)), byte(next(256))})
		}
		expectDecode(t, "a record, whatever follows", l, r, n, api.OK)
	}
}

// mixes are the lists that have, at each place, the sector of one of two lists.
func mixes(a, b []api.Sector) [][]api.Sector {
	n := max(len(a), len(b))
	var all [][]api.Sector
	for m := range 1 << n {
		var l []api.Sector
		for i := range n {
			if m>>i&1 == 0 && i < len(a) || i >= len(b) {
				l = append(l, a[i])
			} else {
				l = append(l, b[i])
			}
		}
		all = append(all, l)
	}
	return all
}

func TestP133Mixed(t *testing.T) {
	for _, x := range []struct{ a, b []byte }{
		{text(1, 5), text(1, 5)}, {text(1, 5), text(1, 6)}, {text(1, 9), text(2, 9)}, {nil, text(1, 20)}, {make([]byte, 8), make([]byte, 12)},
		// Payloads that imitate sectors of the other record.
		{slices.Concat([]byte{2, 0, 0, 0}, streamOf(1, nil)), slices.Concat([]byte{1, 0, 0, 0}, streamOf(1, nil))},
	} {
		for _, numbers := range [][2]int{{1, 2}, {2, 1}, {1, 257}, {256, 65536}, {1, math.MaxUint32}} {
			r, s := api.Record{Kind: 1, Sequence: numbers[0], Payload: x.a}, api.Record{Kind: 1, Sequence: numbers[1], Payload: x.b}
			l, _ := record.Encode(r)
			m, _ := record.Encode(s)
			found := 0
			for _, mixed := range mixes(l, m) {
				got, _, err := record.Decode(mixed)
				if err != api.OK {
					continue
				}
				found++
				if !same(got, r) && !same(got, s) {
					t.Errorf("%v and %v are mixed to %v", r, s, got)
				}
			}
			if found < 2 {
				t.Errorf("%d of the mixes of %v and %v are accepted", found, r, s)
			}
		}
	}
}

// Every other byte of the kind, the payload, the sum or the padding is detected.
func TestP133Changed(t *testing.T) {
	for length := range 12 {
		l, err := record.Encode(api.Record{Kind: 3, Sequence: 77, Payload: text(length, length)})
		if err != api.OK {
			t.Fatalf("Encode: got %d", err)
		}
		for i := range 4 * len(l) {
			for change := 1; change < 256; change++ {
				if i == 1 || i == 2 {
					continue
				}
				wrong := slices.Clone(l)
				wrong[i/4][4+i%4] ^= byte(change)
				if got, n, err := record.Decode(wrong); err == api.OK || n != 0 || !same(got, api.Record{}) {
					t.Errorf("byte %d of the stream of %d bytes changed by %d: got %v, %d, %d", i, length, change, got, n, err)
				}
			}
		}
	}
}

func TestP133Scan(t *testing.T) {
	for seed := range 200 {
		next := random(uint32(seed))
		var records []api.Record
		first := 1 + next(1000)
		for i := range next(9) {
			records = append(records, api.Record{Kind: 1 + next(255), Sequence: first + i, Payload: text(next(256), next(20))})
		}
		l := joined(records)
		expectScan(t, "consecutive records", l, first, records, len(l))
		// A gap: another number, zeros, or a part of a record.
		gap := [][]api.Sector{sectorsOf(1, first+len(records)+1, nil), {{}}, sectorsOf(1, first+len(records), text(1, 9))[:1+next(3)]}[next(3)]
		behind := sectorsOf(1, first+len(records)+1, nil)
		expectScan(t, "a gap", slices.Concat(l, gap, behind, l), first, records, len(l))
	}
}

func TestValues(t *testing.T) {
	payload := text(5, 20)
	l, _ := record.Encode(api.Record{Kind: 1, Sequence: 2, Payload: payload[:9]})
	if !slices.Equal(payload, text(5, 20)) {
		t.Errorf("Encode modifies the payload: %v", payload)
	}
	clear(payload)
	want := sectorsOf(1, 2, text(5, 9))
	if !slices.Equal(l, want) {
		t.Errorf("sectors after a change of the payload: %v", l)
	}
	list := append(slices.Clone(want), sectorsOf(2, 3, text(6, 11))...)
	r, _, _ := record.Decode(list[:len(want)])
	records, _ := record.Scan(list, 2)
	if !slices.Equal(list, append(want, sectorsOf(2, 3, text(6, 11))...)) {
		t.Errorf("Decode or Scan modify the sectors")
	}
	clear(list)
	for _, x := range [][]byte{records[0].Payload, records[1].Payload[:0]} {
		clear(x[:cap(x)])
	}
	if !slices.Equal(r.Payload, text(5, 9)) || !slices.Equal(records[0].Payload, make([]byte, 9)) {
		t.Errorf("payloads after a change of the sectors: %v, %v", r, records)
	}
	records, _ = record.Scan(append(slices.Clone(want), sectorsOf(2, 3, text(6, 11))...), 2)
	clear(records[0].Payload[:cap(records[0].Payload)])
	if !slices.Equal(records[1].Payload, text(6, 11)) {
		t.Errorf("a payload after a change of another one: %v", records[1])
	}
}
