package dedup_test

import (
	"fmt"
	"math"
	"reflect"
	"slices"
	"testing"

	"standby/api"
	"standby/checksum"
	"standby/dedup"
	"standby/wire"
)

// Three sectors, and two that have the same digest.
var (
	x, y, z  = api.Sector{'x'}, api.Sector{'y', 7: 1}, api.Sector{'z', 2, 3}
	same     = api.Sector{0xe4, 0xe5, 0x64, 0x5c, 0x9c, 0x75, 0x5c, 0x63}
	likewise = api.Sector{0x1b, 0x5d, 0x1f, 0x10, 0x3a, 0x59, 0x02, 0x53}
)

// random returns numbers from 0 to n - 1 that look random.
func random(seed uint32) func(n int) int {
	return func(n int) int {
		seed = seed*1664525 + 1013904223
		return int(seed>>8) % n
	}
}

// expect reports an error if a value is not the wanted one. Nil and empty slices are equal.
func expect(t *testing.T, what string, got, want any) {
	t.Helper()
	// Texts of large values take long.
	if reflect.DeepEqual(got, want) {
		return
	}
	if g, w := fmt.Sprint(got), fmt.Sprint(want); g != w {
		t.Errorf("%s: got %s, want %s", what, short(g), short(w))
	}
}

// short is a beginning of a text.
func short(text string) string {
	return text[:min(len(text), 500)]
}

// of is a list of sectors.
func of(l ...api.Sector) []api.Sector {
	return l
}

// many are n sectors, the first ones of which tell lists with different numbers from each other.
func many(n, number int) []api.Sector {
	l := make([]api.Sector, n)
	for i := range l {
		l[i] = api.Sector{byte(i), byte(i >> 8), byte(number), byte(number >> 8), 5}
	}
	return l
}

// item is the item of a store for a chunk.
func item(data ...api.Sector) api.Chunk {
	return api.Chunk{Digest: checksum.Sectors(data), Data: data}
}

// storeOf is a store with the items for chunks.
func storeOf(capacity int, chunks ...[]api.Sector) api.Chunks {
	c := api.Chunks{Capacity: capacity}
	for _, data := range chunks {
		c.Items = append(c.Items, item(data...))
	}
	return c
}

// ref is a reference to a chunk.
func ref(data ...api.Sector) api.Token {
	return api.Token{Reference: true, Digest: checksum.Sectors(data)}
}

// whole is the data of a chunk.
func whole(data ...api.Sector) api.Token {
	return api.Token{Data: data}
}

// isChunk reports whether a list of sectors is a chunk.
func isChunk(data []api.Sector) bool {
	return 0 < len(data) && len(data) < 4097
}

// isCorrect reports whether a token is correct, by the definition.
func isCorrect(t api.Token) bool {
	return t.Reference && len(t.Data) == 0 || !t.Reference && t.Digest == 0 && isChunk(t.Data)
}

// checked is the error of a store, by the definition.
func checked(c api.Chunks) api.Errno {
	if c.Capacity <= 0 || c.Capacity > 4096 {
		return api.ErrRange
	}
	if len(c.Items) > c.Capacity {
		return api.ErrMany
	}
	for i, a := range c.Items {
		if !isChunk(a.Data) {
			return api.ErrForm
		}
		if checksum.Sectors(a.Data) != a.Digest {
			return api.ErrMismatch
		}
		for _, b := range c.Items[:i] {
			if slices.Equal(a.Data, b.Data) {
				return api.ErrTwice
			}
		}
	}
	return api.OK
}

// added is a correct store with a chunk, by the definition.
func added(c api.Chunks, data []api.Sector) api.Chunks {
	for _, a := range c.Items {
		if slices.Equal(a.Data, data) {
			return c
		}
	}
	items := append(slices.Clone(c.Items), item(data...))
	return api.Chunks{Capacity: c.Capacity, Items: items[max(0, len(items)-c.Capacity):]}
}

// found is what is found in a correct store, by the definition.
func found(c api.Chunks, digest uint64) ([]api.Sector, bool) {
	for _, a := range c.Items {
		if a.Digest == digest {
			return a.Data, true
		}
	}
	return nil, false
}

// encoded is the encoding of sectors, by the definition.
func encoded(c api.Chunks, l []api.Sector, chunk int) (api.Chunks, []api.Token) {
	var tokens []api.Token
	for i := 0; i < len(l); i += chunk {
		data := l[i:min(i+chunk, len(l))]
		if other, ok := found(c, checksum.Sectors(data)); ok && slices.Equal(other, data) {
			tokens = append(tokens, ref(data...))
		} else {
			tokens = append(tokens, whole(data...))
		}
		c = added(c, data)
	}
	return c, tokens
}

// decoded is what tokens are decoded to, by the definition.
func decoded(c api.Chunks, l []api.Token) (api.Chunks, []api.Sector, api.Errno) {
	var sectors []api.Sector
	for _, t := range l {
		if !isCorrect(t) {
			return api.Chunks{}, nil, api.ErrForm
		}
		data := t.Data
		if t.Reference {
			var ok bool
			if data, ok = found(c, t.Digest); !ok {
				return api.Chunks{}, nil, api.ErrMiss
			}
		}
		sectors = append(sectors, data...)
		c = added(c, data)
	}
	return c, sectors, api.OK
}

// missing are the digests that a correct store lacks for correct tokens, by the definition.
func missing(c api.Chunks, l []api.Token) []uint64 {
	var known, digests []uint64
	for _, a := range c.Items {
		known = append(known, a.Digest)
	}
	for _, t := range l {
		digest := t.Digest
		if !t.Reference {
			digest = checksum.Sectors(t.Data)
		}
		if slices.Contains(known, digest) {
			continue
		}
		if t.Reference && !slices.Contains(digests, digest) {
			digests = append(digests, digest)
		}
		known = append(known, digest)
		if len(known) > c.Capacity {
			known = known[1:]
		}
	}
	return digests
}

// supplied are tokens with the data of chunks that were found, by the definition.
func supplied(l []api.Token, chunks []api.Chunk) []api.Token {
	var tokens []api.Token
	for _, t := range l {
		for _, c := range chunks {
			if isCorrect(t) && t.Reference && c.Digest == t.Digest && isChunk(c.Data) && checksum.Sectors(c.Data) == c.Digest {
				t = whole(c.Data...)
				break
			}
		}
		tokens = append(tokens, t)
	}
	return tokens
}

// bytesOf is the encoding of tokens, by the definition.
func bytesOf(l ...api.Token) []byte {
	b := wire.PutInt(nil, len(l))
	for _, t := range l {
		if !t.Reference {
			b = append(append(b, 0), wire.PutSectors(nil, t.Data)...)
			continue
		}
		b = append(b, 1)
		for n, digest := 0, t.Digest; n < 8; n, digest = n+1, digest/256 {
			b = append(b, byte(digest%256))
		}
	}
	return b
}

// read is what is read of tokens, by the definition.
func read(src []byte) ([]api.Token, []byte, api.Errno) {
	n, src, err := wire.Int(src)
	if err != api.OK {
		return nil, nil, err
	}
	if n > 65536 {
		return nil, nil, api.ErrLong
	}
	var l []api.Token
	for range n {
		switch {
		case len(src) == 0:
			return nil, nil, api.ErrTorn
		case src[0] > 1:
			return nil, nil, api.ErrForm
		case src[0] == 1 && len(src) < 9:
			return nil, nil, api.ErrTorn
		case src[0] == 1:
			t := api.Token{Reference: true}
			for i := 8; i > 0; i-- {
				t.Digest = t.Digest*256 + uint64(src[i])
			}
			l, src = append(l, t), src[9:]
		default:
			data, rest, err := wire.Sectors(src[1:])
			if err != api.OK {
				return nil, nil, err
			}
			if !isChunk(data) {
				return nil, nil, api.ErrForm
			}
			l, src = append(l, whole(data...)), rest
		}
	}
	return l, src, api.OK
}

// letters are sectors of few contents, two of which have the same digest.
func letters() []api.Sector {
	return of(x, y, same, likewise)
}

// randomChunk is a chunk of few sectors.
func randomChunk(next func(int) int) []api.Sector {
	var l []api.Sector
	for range 1 + next(2)*next(3) {
		l = append(l, letters()[next(4)])
	}
	return l
}

// randomStore is a correct store with few chunks.
func randomStore(next func(int) int) api.Chunks {
	c := api.Chunks{Capacity: 1 + next(5)}
	if next(10) == 0 {
		c.Capacity = 4096
	}
	for range next(min(c.Capacity, 6) + 1) {
		data := randomChunk(next)
		if !slices.ContainsFunc(c.Items, func(a api.Chunk) bool { return slices.Equal(a.Data, data) }) {
			c.Items = append(c.Items, item(data...))
		}
	}
	return c
}

// randomToken is a token that is correct, unless wrong is 0.
func randomToken(next func(int) int, wrong int) api.Token {
	data := randomChunk(next)
	if wrong == 0 {
		return []api.Token{{}, {Data: data, Digest: 1}, {Data: data, Digest: checksum.Sectors(data)}, {Reference: true, Digest: checksum.Sectors(data), Data: data}, {Reference: true, Data: data}}[next(5)]
	}
	if next(3) == 0 {
		return whole(data...)
	}
	return ref(data...)
}

// randomTokens are tokens, of which one of so many is not correct; all are if wrong is 0.
func randomTokens(next func(int) int, wrong int) []api.Token {
	var l []api.Token
	for range next(9) {
		if wrong == 0 {
			l = append(l, randomToken(next, 1))
		} else {
			l = append(l, randomToken(next, next(wrong)))
		}
	}
	return l
}

// fullStore is a store with as many items as there may be, of few sectors each.
func fullStore() api.Chunks {
	c := api.Chunks{Capacity: 4096}
	for i := range 4096 {
		c.Items = append(c.Items, item(many(1+i%3, i)...))
	}
	return c
}

// correctStores are correct stores.
func correctStores() []api.Chunks {
	long := many(4096, 3)
	l := []api.Chunks{
		{Capacity: 1},
		{Capacity: 4096, Items: []api.Chunk{}},
		storeOf(1, of(x)),
		storeOf(2, of(x), of(y)),
		storeOf(2, long, of(x)),
		// Different chunks with the same digest, and chunks that begin with the same sectors.
		storeOf(2, of(same), of(likewise)),
		storeOf(4, of(likewise, x), of(y), of(same, x), of(same)),
		storeOf(3, of(x), of(x, y), of(x, y, x)),
		storeOf(3, of(api.Sector{}), of(api.Sector{}, api.Sector{})),
		fullStore(),
	}
	next := random(3)
	for range 300 {
		l = append(l, randomStore(next))
	}
	return l
}

// wrongStore is a store that is not correct, with its error.
type wrongStore struct {
	err   api.Errno
	store api.Chunks
}

// wrongStores are stores that are not correct; where there are several faults, the error is that of the first one.
func wrongStores() []wrongStore {
	no, long, other := api.Chunk{}, item(many(4097, 1)...), item(y)
	other.Digest++
	stale, empty := api.Chunk{Digest: 9, Data: of(x)}, item()
	store := func(capacity int, items ...api.Chunk) api.Chunks {
		return api.Chunks{Capacity: capacity, Items: items}
	}
	over := fullStore()
	over.Items = append(over.Items, item(x))
	l := []wrongStore{
		{api.ErrMany, storeOf(1, of(x), of(y))},
		{api.ErrMany, store(1, no, no)},
		{api.ErrMany, store(2, item(x), item(x), stale)},
		{api.ErrMany, over},
		{api.ErrForm, store(1, no)},
		{api.ErrForm, store(1, empty)},
		{api.ErrForm, store(1, long)},
		{api.ErrForm, store(1, api.Chunk{Digest: 5, Data: long.Data})},
		{api.ErrForm, store(2, item(x), empty)},
		{api.ErrForm, store(2, empty, empty)},
		{api.ErrForm, store(2, long, stale)},
		{api.ErrForm, store(3, item(x), no, item(x))},
		{api.ErrMismatch, store(1, other)},
		{api.ErrMismatch, store(1, stale)},
		{api.ErrMismatch, store(1, api.Chunk{Data: of(x)})},
		{api.ErrMismatch, store(2, item(x), stale)},
		{api.ErrMismatch, store(2, stale, item(x))},
		{api.ErrMismatch, store(2, stale, no)},
		{api.ErrMismatch, store(3, item(x), stale, item(x))},
		{api.ErrMismatch, store(3, item(x), item(y), other)},
		{api.ErrTwice, store(2, item(x), item(x))},
		{api.ErrTwice, store(4, item(same), item(likewise), item(y), item(same))},
		{api.ErrTwice, store(4, item(same), item(likewise), item(likewise), stale)},
		{api.ErrTwice, store(4, item(x, y), item(x), item(x, y), no)},
	}
	for _, n := range []int{math.MinInt, -1, 0, 4097, math.MaxInt} {
		l = append(l, wrongStore{api.ErrRange, store(n)}, wrongStore{api.ErrRange, store(n, item(x), no)})
	}
	return l
}

// streams calls f with all lists of few sectors.
func streams(most int, f func(l []api.Sector)) {
	all := [][]api.Sector{nil}
	for at := 0; at < len(all); at++ {
		f(all[at])
		if len(all[at]) == most {
			continue
		}
		for _, s := range letters() {
			all = append(all, append(slices.Clone(all[at]), s))
		}
	}
}

func TestSectorsWithTheSameDigest(t *testing.T) {
	if checksum.Sectors(of(same)) != checksum.Sectors(of(likewise)) || checksum.Sectors(of(same, x)) != checksum.Sectors(of(likewise, x)) {
		t.Error("the digests differ")
	}
}

func TestP291New(t *testing.T) {
	for _, n := range []int{1, 2, 1000, 4095, 4096} {
		c, err := dedup.New(n)
		if err != api.OK || c.Capacity != n || len(c.Items) > 0 {
			t.Errorf("New(%d): got %v, %d", n, c, err)
		}
	}
	for _, n := range []int{math.MinInt, -1, 0, 4097, math.MaxInt} {
		c, err := dedup.New(n)
		if err != api.ErrRange || c.Capacity != 0 || len(c.Items) > 0 {
			t.Errorf("New(%d): got %v, %d", n, c, err)
		}
	}
}

func TestP291Check(t *testing.T) {
	for _, c := range correctStores() {
		expect(t, "Check of a correct store", dedup.Check(c), api.OK)
	}
	for i, w := range wrongStores() {
		expect(t, fmt.Sprint("Check of wrong store ", i), dedup.Check(w.store), w.err)
	}
}

func TestP291CheckRandomStores(t *testing.T) {
	next := random(5)
	var seen [api.ErrStop + 1]int
	for range 20000 {
		c := randomStore(next)
		for range next(3) {
			a := item(randomChunk(next)...)
			switch next(5) {
			case 0:
				a.Digest ^= 1 << next(64)
			case 1:
				a.Data = nil
			}
			c.Items = slices.Insert(c.Items, next(len(c.Items)+1), a)
		}
		want := checked(c)
		seen[want]++
		expect(t, fmt.Sprint("Check of ", c), dedup.Check(c), want)
	}
	for _, err := range []api.Errno{api.OK, api.ErrMany, api.ErrForm, api.ErrMismatch, api.ErrTwice} {
		if seen[err] < 100 {
			t.Errorf("the error %d was found %d times", err, seen[err])
		}
	}
}

// TestP291WrongStores calls the functions with stores that are not correct, whatever else is wrong.
func TestP291WrongStores(t *testing.T) {
	for _, w := range wrongStores() {
		for _, data := range [][]api.Sector{of(x), of(z), nil, many(4097, 2)} {
			expect(t, "Add to a wrong store", dedup.Add(w.store, data), w.store)
		}
		for _, digest := range []uint64{0, 9, checksum.Sectors(of(x)), checksum.Sectors(nil)} {
			data, ok := dedup.Find(w.store, digest)
			expect(t, "Find in a wrong store", []any{len(data), ok}, []any{0, false})
		}
		for _, chunk := range []int{1, 0, -1, 4097} {
			for _, l := range [][]api.Sector{nil, of(x, y), many(4097, 2)} {
				c, tokens, err := dedup.Encode(w.store, l, chunk)
				expect(t, "Encode by a wrong store", []any{c, len(tokens), err}, []any{api.Chunks{}, 0, w.err})
			}
		}
		for _, l := range [][]api.Token{nil, {whole(z)}, {ref(z)}, {{}}} {
			c, sectors, err := dedup.Decode(w.store, l)
			expect(t, "Decode by a wrong store", []any{c, len(sectors), err}, []any{api.Chunks{}, 0, w.err})
		}
	}
}

func TestP291Add(t *testing.T) {
	next := random(7)
	for _, c := range correctStores() {
		for _, data := range [][]api.Sector{of(x), of(same), of(likewise), of(likewise, x), randomChunk(next), randomChunk(next), many(4096, 3), many(4095, 3)} {
			want := added(c, data)
			got := dedup.Add(c, data)
			expect(t, fmt.Sprint("Add of ", len(data), " sectors"), got, want)
			expect(t, "Check of the store behind Add", dedup.Check(got), api.OK)
		}
		for _, data := range [][]api.Sector{nil, {}, many(4097, 1), many(5000, 1)} {
			expect(t, "Add of what is no chunk", dedup.Add(c, data), c)
		}
	}
	c := storeOf(3, of(x), of(y), of(z))
	expect(t, "Add of the oldest chunk", dedup.Add(c, of(x)), c)
	expect(t, "Add of a fourth chunk", dedup.Add(c, of(x, y)), storeOf(3, of(y), of(z), of(x, y)))
	expect(t, "Add of another chunk with the same digest", dedup.Add(storeOf(3, of(same), of(x)), of(likewise)), storeOf(3, of(same), of(x), of(likewise)))
	expect(t, "Add of the second chunk with a digest", dedup.Add(storeOf(2, of(same), of(likewise)), of(likewise)), storeOf(2, of(same), of(likewise)))
}

func TestP291AddInSuccession(t *testing.T) {
	for capacity := 1; capacity <= 3; capacity++ {
		streams(6, func(l []api.Sector) {
			got, want := api.Chunks{Capacity: capacity}, api.Chunks{Capacity: capacity}
			for _, s := range l {
				got, want = dedup.Add(got, of(s)), added(want, of(s))
			}
			expect(t, fmt.Sprint("the store behind Add of ", l), got, want)
		})
	}
}

func TestP291Find(t *testing.T) {
	for _, c := range correctStores() {
		digests := []uint64{0, 1, math.MaxUint64, checksum.Sectors(nil), checksum.Sectors(of(x)), checksum.Sectors(of(same)), checksum.Sectors(of(same, x)), checksum.Sectors(of(z))}
		for i, a := range c.Items {
			if i < 10 || i > len(c.Items)-3 {
				digests = append(digests, a.Digest, a.Digest+1)
			}
		}
		for _, digest := range digests {
			data, ok := dedup.Find(c, digest)
			want, wanted := found(c, digest)
			expect(t, "Find", []any{data, ok}, []any{want, wanted})
		}
	}
	data, ok := dedup.Find(storeOf(3, of(x), of(likewise), of(same)), checksum.Sectors(of(same)))
	expect(t, "Find of a digest of two chunks", []any{data, ok}, []any{of(likewise), true})
}

func TestP291Encode(t *testing.T) {
	stores := []api.Chunks{{Capacity: 1}, {Capacity: 2}, {Capacity: 3}, {Capacity: 4096}, storeOf(1, of(likewise)), storeOf(2, of(likewise), of(same)), storeOf(3, of(y, x), of(same, x), of(x)), storeOf(5, of(x), of(x, x), of(likewise), of(same))}
	for _, c := range stores {
		for chunk := 1; chunk <= 4; chunk++ {
			streams(5, func(l []api.Sector) {
				got, tokens, err := dedup.Encode(c, l, chunk)
				want, wanted := encoded(c, l, chunk)
				expect(t, fmt.Sprint("Encode of ", l, " by ", c, " in chunks of ", chunk), []any{got, tokens, err}, []any{want, wanted, api.OK})
			})
		}
	}
}

func TestP291EncodeRandomLists(t *testing.T) {
	next := random(11)
	kinds := map[bool]int{}
	for range 3000 {
		c, chunk := randomStore(next), []int{1, 2, 3, 7, 4095, 4096}[next(6)]
		var l []api.Sector
		for range next(40) {
			l = append(l, letters()[next(4)])
		}
		got, tokens, err := dedup.Encode(c, l, chunk)
		want, wanted := encoded(c, l, chunk)
		expect(t, fmt.Sprint("Encode of ", l, " by ", c, " in chunks of ", chunk), []any{got, tokens, err}, []any{want, wanted, api.OK})
		for _, token := range tokens {
			kinds[token.Reference]++
		}
	}
	if kinds[true] < 1000 || kinds[false] < 1000 {
		t.Errorf("the references and the others are %v", kinds)
	}
}

func TestP291EncodeLimits(t *testing.T) {
	long := many(4096, 1)
	for _, e := range []struct {
		what   string
		n      int
		chunk  int
		tokens int
		err    api.Errno
	}{
		{"no sectors", 0, 1, 0, api.OK},
		{"as many sectors as there may be", 4096, 1, 4096, api.OK},
		{"one chunk of as many sectors as there may be", 4096, 4096, 1, api.OK},
		{"a shorter last chunk", 4096, 4095, 2, api.OK},
		{"chunks of 4096 sectors for one", 1, 4096, 1, api.OK},
		{"no sectors in chunks of none", 0, 0, 0, api.ErrArg},
		{"chunks of none", 5, 0, 0, api.ErrArg},
		{"chunks of a negative number", 5, -1, 0, api.ErrArg},
		{"chunks of the least number", 5, math.MinInt, 0, api.ErrArg},
		{"chunks of 4097 sectors", 5, 4097, 0, api.ErrArg},
		{"chunks of the greatest number", 5, math.MaxInt, 0, api.ErrArg},
		{"too many sectors", 4097, 1, 0, api.ErrMany},
		{"too many sectors in chunks of 4096", 4097, 4096, 0, api.ErrMany},
		{"too many sectors in chunks of none", 4097, 0, 0, api.ErrArg},
		{"too many sectors in chunks of 4097", 4097, 4097, 0, api.ErrArg},
	} {
		l := append(slices.Clone(long), x)[:e.n]
		for _, c := range []api.Chunks{{Capacity: 4096}, {Capacity: 3}, fullStore()} {
			after, tokens, err := dedup.Encode(c, l, e.chunk)
			want, wanted := api.Chunks{}, []api.Token(nil)
			if e.err == api.OK {
				want, wanted = encoded(c, l, e.chunk)
			}
			expect(t, e.what, []any{len(tokens), err}, []any{e.tokens, e.err})
			expect(t, e.what, []any{after, tokens}, []any{want, wanted})
		}
	}
}

func TestP291Decode(t *testing.T) {
	next := random(13)
	var seen [api.ErrStop + 1]int
	for range 30000 {
		c, l := randomStore(next), randomTokens(next, 8)
		got, sectors, err := dedup.Decode(c, l)
		want, wanted, wantedErr := decoded(c, l)
		seen[wantedErr]++
		expect(t, fmt.Sprint("Decode by ", c), []any{got, sectors, err}, []any{want, wanted, wantedErr})
	}
	for _, err := range []api.Errno{api.OK, api.ErrForm, api.ErrMiss} {
		if seen[err] < 1000 {
			t.Errorf("the error %d was found %d times", err, seen[err])
		}
	}
}

func TestP291DecodeTokens(t *testing.T) {
	long := many(4096, 1)
	c := storeOf(2, of(x), of(same))
	for _, e := range []struct {
		what    string
		l       []api.Token
		sectors []api.Sector
		store   api.Chunks
		err     api.Errno
	}{
		{"no tokens", nil, nil, c, api.OK},
		{"data", []api.Token{whole(y, x)}, of(y, x), storeOf(2, of(same), of(y, x)), api.OK},
		{"data that is there", []api.Token{whole(x)}, of(x), c, api.OK},
		{"a reference", []api.Token{ref(x)}, of(x), c, api.OK},
		{"a reference with an empty list", []api.Token{{Reference: true, Digest: checksum.Sectors(of(x)), Data: of()}}, of(x), c, api.OK},
		{"a reference to what has just come", []api.Token{whole(y), ref(y)}, of(y, y), storeOf(2, of(same), of(y)), api.OK},
		{"a reference to the digest of two chunks", []api.Token{whole(likewise), ref(likewise)}, of(likewise, same), storeOf(2, of(same), of(likewise)), api.OK},
		{"a reference to the second chunk when the first one is gone", []api.Token{whole(likewise), whole(z), ref(same)}, of(likewise, z, likewise), storeOf(2, of(likewise), of(z)), api.OK},
		{"a long chunk", []api.Token{whole(long...)}, long, storeOf(2, of(same), long), api.OK},
		{"a reference to what is not there", []api.Token{ref(y)}, nil, api.Chunks{}, api.ErrMiss},
		{"a reference to what has just gone", []api.Token{ref(x), whole(y), ref(x)}, nil, api.Chunks{}, api.ErrMiss},
		{"the digest 0 of nothing", []api.Token{{Reference: true}}, nil, api.Chunks{}, api.ErrMiss},
		{"no data", []api.Token{{}}, nil, api.Chunks{}, api.ErrForm},
		{"too long data", []api.Token{whole(many(4097, 1)...)}, nil, api.Chunks{}, api.ErrForm},
		{"data with a digest", []api.Token{{Digest: checksum.Sectors(of(x)), Data: of(x)}}, nil, api.Chunks{}, api.ErrForm},
		{"a reference with data", []api.Token{{Reference: true, Digest: checksum.Sectors(of(x)), Data: of(x)}}, nil, api.Chunks{}, api.ErrForm},
		{"a wrong reference to what is not there", []api.Token{{Reference: true, Data: of(y)}}, nil, api.Chunks{}, api.ErrForm},
		{"a wrong token behind a missing one", []api.Token{ref(y), {}}, nil, api.Chunks{}, api.ErrMiss},
		{"a missing token behind a wrong one", []api.Token{{}, ref(y)}, nil, api.Chunks{}, api.ErrForm},
	} {
		store, sectors, err := dedup.Decode(c, e.l)
		expect(t, e.what, []any{store, sectors, err}, []any{e.store, e.sectors, e.err})
	}
}

func TestP291Examples(t *testing.T) {
	c, err := dedup.New(2)
	expect(t, "New", err, api.OK)
	c, tokens, err := dedup.Encode(c, of(x, y, x, z, x), 1)
	expect(t, "Encode", []any{c, tokens, err}, []any{storeOf(2, of(z), of(x)), []api.Token{whole(x), whole(y), ref(x), whole(z), whole(x)}, api.OK})
	empty, _ := dedup.New(2)
	_, sectors, err := dedup.Decode(empty, tokens)
	expect(t, "Decode", []any{sectors, err}, []any{of(x, y, x, z, x), api.OK})
	expect(t, "Missing", len(dedup.Missing(empty, tokens)), 0)
	_, tokens, err = dedup.Encode(storeOf(2, of(x)), of(x, x), 1)
	expect(t, "Encode of x, x", []any{tokens, err}, []any{[]api.Token{ref(x), ref(x)}, api.OK})
	expect(t, "Missing", dedup.Missing(empty, tokens), []uint64{checksum.Sectors(of(x))})
}

func TestP292Missing(t *testing.T) {
	next := random(17)
	lacking := 0
	for range 30000 {
		c, l := randomStore(next), randomTokens(next, 0)
		want := missing(c, l)
		expect(t, fmt.Sprint("Missing of ", l, " in ", c), dedup.Missing(c, l), want)
		lacking += min(len(want), 1)
	}
	if lacking < 5000 || lacking > 25000 {
		t.Errorf("digests are missing %d times", lacking)
	}
	for range 2000 {
		c, l := randomStore(next), randomTokens(next, 0)
		l = slices.Insert(l, next(len(l)+1), randomToken(next, 0))
		expect(t, "Missing with a wrong token", len(dedup.Missing(c, l)), 0)
	}
	for _, w := range wrongStores() {
		expect(t, "Missing in a wrong store", len(dedup.Missing(w.store, []api.Token{ref(z), whole(x)})), 0)
	}
}

func TestP292MissingTokens(t *testing.T) {
	digests := func(chunks ...api.Sector) []uint64 {
		var l []uint64
		for _, s := range chunks {
			l = append(l, checksum.Sectors(of(s)))
		}
		return l
	}
	for _, e := range []struct {
		what  string
		store api.Chunks
		l     []api.Token
		want  []uint64
	}{
		{"nothing", storeOf(1), nil, nil},
		{"data alone", storeOf(2), []api.Token{whole(x), whole(y), whole(z)}, nil},
		{"a reference to data in front of it", storeOf(1), []api.Token{whole(x), ref(x)}, nil},
		{"a reference to data behind it", storeOf(1), []api.Token{ref(x), whole(x)}, digests(x)},
		{"references to items", storeOf(2, of(x), of(y)), []api.Token{ref(y), ref(x)}, nil},
		{"in the order in which they are missed first", storeOf(9), []api.Token{ref(z), ref(x), ref(z), ref(y), ref(x)}, digests(z, x, y)},
		{"each once, even if it is forgotten", storeOf(1), []api.Token{ref(x), ref(y), ref(x), ref(y)}, digests(x, y)},
		{"forgotten behind data", storeOf(2, of(x), of(y)), []api.Token{ref(x), whole(z), ref(y), ref(x)}, digests(x)},
		{"forgotten behind a missing reference", storeOf(2, of(x), of(y)), []api.Token{ref(z), ref(y), ref(x)}, digests(z, x)},
		{"not made newer by a reference", storeOf(2, of(x), of(y)), []api.Token{ref(x), ref(z), ref(x)}, digests(z, x)},
		{"another chunk with the same digest", storeOf(1, of(same)), []api.Token{ref(likewise), whole(likewise), ref(same)}, nil},
		// By their digests alone the chunks are not told from each other: same is not added behind likewise.
		{"data with a digest that is known", storeOf(2, of(x), of(likewise)), []api.Token{whole(same), ref(x)}, nil},
		{"one of two items with the same digest is forgotten", storeOf(3, of(same), of(x), of(likewise)), []api.Token{whole(y), ref(same), ref(x), whole(z), ref(same), ref(x)}, digests(x)},
		{"the digest 0", storeOf(1, of(x)), []api.Token{{Reference: true}}, []uint64{0}},
	} {
		expect(t, e.what, dedup.Missing(e.store, e.l), e.want)
	}
}

func TestP292Supply(t *testing.T) {
	next := random(19)
	changed := 0
	for range 30000 {
		l := randomTokens(next, 9)
		var chunks []api.Chunk
		for range next(5) {
			a := item(randomChunk(next)...)
			switch next(8) {
			case 0:
				a.Data = randomChunk(next)
			case 1:
				a.Data = nil
			}
			chunks = append(chunks, a)
		}
		want := supplied(l, chunks)
		if fmt.Sprint(want) != fmt.Sprint(l) {
			changed++
		}
		expect(t, "Supply", dedup.Supply(l, chunks), want)
	}
	if changed < 5000 || changed > 25000 {
		t.Errorf("tokens are supplied %d times", changed)
	}
}

func TestP292SupplyTokens(t *testing.T) {
	long, tooLong := many(4096, 1), many(4097, 1)
	wrong := api.Token{Reference: true, Digest: checksum.Sectors(of(x)), Data: of(y)}
	for _, e := range []struct {
		what   string
		l      []api.Token
		chunks []api.Chunk
		want   []api.Token
	}{
		{"nothing", nil, nil, nil},
		{"nothing is found", []api.Token{ref(x), whole(y)}, nil, []api.Token{ref(x), whole(y)}},
		{"nothing is needed", []api.Token{whole(y)}, []api.Chunk{item(y)}, []api.Token{whole(y)}},
		{"all references", []api.Token{ref(x), ref(y), ref(x)}, []api.Chunk{item(x)}, []api.Token{whole(x), ref(y), whole(x)}},
		{"the first chunk with the digest", []api.Token{ref(same)}, []api.Chunk{item(likewise), item(same)}, []api.Token{whole(likewise)}},
		{"another digest", []api.Token{ref(x)}, []api.Chunk{{Digest: checksum.Sectors(of(y)), Data: of(x)}}, []api.Token{ref(x)}},
		{"other data", []api.Token{ref(x)}, []api.Chunk{{Digest: checksum.Sectors(of(x)), Data: of(y)}}, []api.Token{ref(x)}},
		{"other data before the right one", []api.Token{ref(x)}, []api.Chunk{{Digest: checksum.Sectors(of(x)), Data: of(y)}, item(x)}, []api.Token{whole(x)}},
		{"what is no chunk", []api.Token{ref(), ref(tooLong...), ref(long...)}, []api.Chunk{item(), item(tooLong...), item(long...)}, []api.Token{ref(), ref(tooLong...), whole(long...)}},
		{"tokens that are not correct", []api.Token{wrong, {}, {Digest: checksum.Sectors(of(x))}}, []api.Chunk{item(x), item()}, []api.Token{wrong, {}, {Digest: checksum.Sectors(of(x))}}},
		{"the data of another token", []api.Token{{Digest: checksum.Sectors(of(x)), Data: of(y)}}, []api.Chunk{item(x)}, []api.Token{{Digest: checksum.Sectors(of(x)), Data: of(y)}}},
	} {
		expect(t, e.what, dedup.Supply(e.l, e.chunks), e.want)
	}
}

func TestP292PutTokens(t *testing.T) {
	digest := uint64(0x0807060504030201)
	for _, e := range []struct {
		what string
		dst  []byte
		l    []api.Token
		want []byte
	}{
		{"nothing", nil, nil, []byte{0}},
		{"nothing behind bytes", []byte{7, 8}, nil, []byte{7, 8, 0}},
		{"a reference", nil, []api.Token{{Reference: true, Digest: digest}}, []byte{1, 1, 1, 2, 3, 4, 5, 6, 7, 8}},
		{"data", nil, []api.Token{whole(api.Sector{9, 8, 7, 6, 5, 4, 3, 2})}, []byte{1, 0, 1, 9, 8, 7, 6, 5, 4, 3, 2}},
		{"both behind bytes", []byte{5}, []api.Token{whole(api.Sector{}, api.Sector{7: 1}), {Reference: true, Digest: math.MaxUint64}}, []byte{5, 2, 0, 2, 0, 0, 0, 0, 0, 0, 0, 0, 0, 0, 0, 0, 0, 0, 0, 1, 1, 255, 255, 255, 255, 255, 255, 255, 255}},
		{"the data of a reference", nil, []api.Token{{Reference: true, Digest: digest, Data: of(x)}}, []byte{1, 1, 1, 2, 3, 4, 5, 6, 7, 8}},
		{"the digest of another one", nil, []api.Token{{Digest: digest}, {Reference: true}}, []byte{2, 0, 0, 1, 0, 0, 0, 0, 0, 0, 0, 0}},
	} {
		expect(t, e.what, dedup.PutTokens(e.dst, e.l), e.want)
	}
	next := random(23)
	for range 5000 {
		l := randomTokens(next, 9)
		expect(t, "PutTokens", dedup.PutTokens([]byte{1, 2}, l), append([]byte{1, 2}, bytesOf(l...)...))
	}
	l := []api.Token{whole(many(4096, 1)...), whole(many(5000, 1)...), ref(x)}
	expect(t, "PutTokens of long data", dedup.PutTokens(nil, l), bytesOf(l...))
	l = slices.Repeat([]api.Token{ref(y)}, 70000)
	expect(t, "PutTokens of many tokens", dedup.PutTokens(nil, l), bytesOf(l...))
}

func TestP292TokensErrors(t *testing.T) {
	number := func(n int, b ...byte) []byte {
		return append(wire.PutInt(nil, n), b...)
	}
	data := func(n int) []byte {
		return append([]byte{1, 0}, wire.PutSectors(nil, many(n, 1))...)
	}
	for _, e := range []struct {
		what string
		src  []byte
		err  api.Errno
	}{
		{"nothing", nil, api.ErrTorn},
		{"a torn length", []byte{128}, api.ErrTorn},
		{"a length in another way", []byte{128, 0}, api.ErrForm},
		{"a length beyond all numbers", []byte{255, 255, 255, 255, 255, 255, 255, 16}, api.ErrForm},
		{"a length that is too great", number(65537), api.ErrLong},
		{"a length that is too great, and a wrong byte", number(65537, 2), api.ErrLong},
		{"the greatest length", number(1<<53 - 1), api.ErrLong},
		{"a great length without tokens", number(65536), api.ErrTorn},
		{"a great length with a wrong byte", number(65536, 2), api.ErrForm},
		{"no byte of a token", number(1), api.ErrTorn},
		{"the byte 2", number(1, 2), api.ErrForm},
		{"the byte 255", number(1, 255, 0, 0), api.ErrForm},
		{"no byte of a digest", number(1, 1), api.ErrTorn},
		{"seven bytes of a digest", number(1, 1, 1, 2, 3, 4, 5, 6, 7), api.ErrTorn},
		{"no second token", number(2, 1, 1, 2, 3, 4, 5, 6, 7, 8), api.ErrTorn},
		{"a wrong second token", number(2, 1, 1, 2, 3, 4, 5, 6, 7, 8, 3), api.ErrForm},
		{"no length of data", number(1, 0), api.ErrTorn},
		{"a torn length of data", number(1, 0, 129), api.ErrTorn},
		{"a length of data in another way", number(1, 0, 129, 0), api.ErrForm},
		{"a length of data with nine groups", number(1, 0, 128, 128, 128, 128, 128, 128, 128, 128, 1), api.ErrForm},
		{"too many sectors", number(1, append([]byte{0}, wire.PutInt(nil, 65537)...)...), api.ErrLong},
		{"the greatest length of data", number(1, append([]byte{0}, wire.PutInt(nil, 1<<53-1)...)...), api.ErrLong},
		{"a torn sector", number(1, 0, 1, 1, 2, 3, 4, 5, 6, 7), api.ErrTorn},
		{"a torn second sector", number(1, 0, 2, 1, 2, 3, 4, 5, 6, 7, 8, 9), api.ErrTorn},
		{"no sectors", number(1, 0, 0), api.ErrForm},
		{"no sectors, and a torn token behind", number(2, 0, 0), api.ErrForm},
		{"4097 sectors", data(4097), api.ErrForm},
		{"4097 sectors, one of them torn", data(4097)[:4+8*4097-1], api.ErrTorn},
		{"65536 sectors", data(65536), api.ErrForm},
		{"65536 sectors, one of them torn", data(65536)[:5+8*65536-1], api.ErrTorn},
	} {
		l, rest, err := dedup.Tokens(e.src)
		expect(t, e.what, []any{l, rest, err}, []any{[]api.Token(nil), []byte(nil), e.err})
	}
	for _, n := range []int{1, 127, 128, 4095, 4096} {
		l, rest, err := dedup.Tokens(append(data(n), 6))
		expect(t, "Tokens", []any{l, rest, err}, []any{[]api.Token{whole(many(n, 1)...)}, []byte{6}, api.OK})
	}
}

// TestP292TokensOfChangedBytes reads encodings, cut ones and changed ones.
func TestP292TokensOfChangedBytes(t *testing.T) {
	next := random(29)
	var seen [api.ErrStop + 1]int
	try := func(src []byte) {
		l, rest, err := dedup.Tokens(src)
		want, wanted, wantedErr := read(src)
		seen[wantedErr]++
		expect(t, fmt.Sprint("Tokens of ", src), []any{l, rest, err}, []any{want, wanted, wantedErr})
	}
	for range 3000 {
		b := bytesOf(randomTokens(next, 0)...)
		for n := range b {
			if _, _, err := dedup.Tokens(b[:n]); err != api.ErrTorn {
				t.Fatalf("Tokens of %v: got %d", b[:n], err)
			}
		}
		try(b)
		try(append(slices.Clone(b), byte(next(3)), byte(next(256))))
		for range 5 {
			changed := slices.Clone(b)
			changed[next(len(b))] = []byte{0, 1, 2, 3, 128, 129, 255, byte(next(256))}[next(8)]
			try(changed)
			try(changed[:next(len(b)+1)])
		}
	}
	for _, err := range []api.Errno{api.OK, api.ErrForm, api.ErrTorn} {
		if seen[err] < 1000 {
			t.Errorf("the error %d was found %d times", err, seen[err])
		}
	}
}

func TestP293SameStore(t *testing.T) {
	next := random(31)
	for range 400 {
		near := randomStore(next)
		far := near
		for range 12 {
			var l []api.Sector
			for range next(30) {
				l = append(l, letters()[next(4)])
			}
			after, tokens, err := dedup.Encode(near, l, 1+next(4))
			expect(t, "Encode", err, api.OK)
			other, sectors, err := dedup.Decode(far, tokens)
			expect(t, "Decode of what was encoded", []any{sectors, err}, []any{l, api.OK})
			expect(t, "the other store", other, after)
			near, far = after, other
		}
	}
}

// TestP293OtherStore sends to a side whose store is another one. No two chunks have the same digest.
func TestP293OtherStore(t *testing.T) {
	next := random(37)
	asked := 0
	sector := func() api.Sector { return of(x, y, z, same, api.Sector{}, api.Sector{9})[next(6)] }
	for range 1500 {
		near, far := api.Chunks{Capacity: 1 + next(9)}, api.Chunks{Capacity: 1 + next(9)}
		for range next(9) {
			near, far = dedup.Add(near, of(sector())), dedup.Add(far, of(sector(), sector())[:1+next(2)])
		}
		for range 5 {
			chunk := 1 + next(3)
			var l []api.Sector
			for range next(25) {
				l = append(l, sector())
			}
			after, tokens, err := dedup.Encode(near, l, chunk)
			expect(t, "Encode", err, api.OK)
			// The sender finds the chunks among those that it has sent.
			var chunks []api.Chunk
			for _, digest := range dedup.Missing(far, tokens) {
				for data := range slices.Chunk(l, chunk) {
					if checksum.Sectors(data) == digest {
						chunks = append(chunks, item(data...))
						break
					}
				}
			}
			if _, _, err := dedup.Decode(far, tokens); (err == api.ErrMiss) != (len(chunks) > 0) {
				t.Errorf("Decode: got %d where %d chunks are missing", err, len(chunks))
			}
			other, sectors, err := dedup.Decode(far, dedup.Supply(tokens, chunks))
			expect(t, "Decode of supplied tokens", []any{sectors, err}, []any{l, api.OK})
			near, far, asked = after, other, asked+len(chunks)
		}
	}
	if asked < 1000 {
		t.Errorf("%d chunks were missing", asked)
	}
}

func TestP293Twice(t *testing.T) {
	next := random(41)
	for i := range 300 {
		chunk := 1 + next(5)
		var l []api.Sector
		for range next(200) {
			l = append(l, of(x, y, z, same)[next(4)])
		}
		if i == 0 {
			chunk, l = 1, many(4096, 1)
		}
		different := map[string]bool{}
		for data := range slices.Chunk(l, chunk) {
			different[fmt.Sprint(data)] = true
		}
		c, _ := dedup.New(max(len(different), 1))
		c, first, _ := dedup.Encode(c, l, chunk)
		after, second, err := dedup.Encode(c, l, chunk)
		if err != api.OK || slices.ContainsFunc(second, func(t api.Token) bool { return !t.Reference }) || len(second) != len(first) {
			t.Errorf("the second encoding of %v: got %v, %d", l, second, err)
		}
		expect(t, "the store behind the second encoding", after, c)
	}
}

func TestP293TokensAsPut(t *testing.T) {
	next := random(43)
	for range 5000 {
		l := randomTokens(next, 0)
		rest := []byte{byte(next(256)), 0, 1}[:next(4)]
		got, behind, err := dedup.Tokens(append(dedup.PutTokens(nil, l), rest...))
		expect(t, "Tokens of what was put", []any{got, behind, err}, []any{l, rest, api.OK})
	}
	// What is read of bytes is put as these bytes.
	readable := 0
	for range 100000 {
		src := []byte{byte(next(3))}
		for range next(28) {
			src = append(src, []byte{0, 0, 1, 1, 2, 128, byte(next(256))}[next(7)])
		}
		l, rest, err := dedup.Tokens(src)
		if err != api.OK {
			continue
		}
		readable++
		expect(t, "what is put again", append(dedup.PutTokens(nil, l), rest...), src)
		if slices.ContainsFunc(l, func(t api.Token) bool { return !isCorrect(t) }) {
			t.Errorf("Tokens of %v: got %v", src, l)
		}
	}
	if readable < 10000 {
		t.Errorf("%d lists of tokens were read", readable)
	}
	refs := slices.Repeat([]api.Token{ref(x), ref(y)}, 32768)
	got, rest, err := dedup.Tokens(dedup.PutTokens(nil, refs))
	expect(t, "as many references as there may be", []any{got, rest, err}, []any{refs, []byte(nil), api.OK})
	data := slices.Repeat([]api.Token{whole(x)}, 65536)
	got, rest, err = dedup.Tokens(dedup.PutTokens(nil, data))
	expect(t, "as much data as there may be", []any{len(got), got[65535], rest, err}, []any{65536, whole(x), []byte(nil), api.OK})
}

// roomy is a list with spare capacity that contains other sectors.
func roomy(l ...api.Sector) []api.Sector {
	return append(slices.Clone(l), api.Sector{99}, api.Sector{98})[:len(l)]
}

// arguments are a store, sectors, tokens, chunks and bytes with spare capacity everywhere.
func arguments() (api.Chunks, []api.Sector, []api.Token, []api.Chunk, []byte) {
	items := []api.Chunk{item(roomy(x)...), item(roomy(y, z)...), {Digest: 7}, {Digest: 8}}
	tokens := []api.Token{whole(roomy(z, z)...), ref(x), ref(same), {Digest: 5}, {Digest: 6}}
	chunks := []api.Chunk{item(roomy(same)...), {Digest: 9}}
	encoding := append(bytesOf(whole(z, z), ref(same)), 3, 4, 5)
	return api.Chunks{Capacity: 3, Items: items[:2]}, roomy(x, y, z, x, y, z, z), tokens[:3], chunks[:1], encoding[:len(encoding)-2]
}

// results are what the functions return for arguments, and a function that changes these.
func results() (got []any, spoil func()) {
	c, l, tokens, chunks, src := arguments()
	added, kept := dedup.Add(c, l[3:5]), dedup.Add(c, nil)
	wrong := dedup.Add(api.Chunks{Capacity: 1, Items: c.Items}, l[:1])
	found, _ := dedup.Find(c, c.Items[1].Digest)
	after, encoded, _ := dedup.Encode(c, l, 2)
	twice, references, _ := dedup.Encode(after, l, 2)
	supplied := dedup.Supply(append(slices.Clone(tokens), tokens[2]), chunks)
	decodedStore, sectors, _ := dedup.Decode(c, supplied)
	missing := dedup.Missing(c, tokens)
	out := dedup.PutTokens(src, tokens)
	read, rest, _ := dedup.Tokens(src)
	spoil = func() {
		spoilStore(c)
		spoilSectors(l)
		spoilTokens(tokens)
		spoilItems(chunks)
		clear(src[:cap(src)])
	}
	return []any{added, kept, wrong, found, after, encoded, twice, references, supplied, decodedStore, sectors, missing, out, read, rest}, spoil
}

func spoilSectors(l []api.Sector) {
	for i := range l[:cap(l)] {
		l[:cap(l)][i][3] ^= 255
	}
}

func spoilItems(l []api.Chunk) {
	for i, a := range l[:cap(l)] {
		spoilSectors(a.Data)
		l[:cap(l)][i].Digest++
	}
}

func spoilStore(c api.Chunks) {
	spoilItems(c.Items)
}

func spoilTokens(l []api.Token) {
	for i, a := range l[:cap(l)] {
		spoilSectors(a.Data)
		l[:cap(l)][i].Digest++
	}
}

// spoilResult changes a result and all that it reaches.
func spoilResult(result any) {
	switch r := result.(type) {
	case api.Chunks:
		spoilStore(r)
	case []api.Sector:
		spoilSectors(r)
	case []api.Token:
		spoilTokens(r)
	case []uint64:
		clear(r[:cap(r)])
	case []byte:
		clear(r[:cap(r)])
	}
}

// TestValues changes arguments and results.
func TestValues(t *testing.T) {
	want, _ := results()
	got, spoil := results()
	spoil()
	for i := range got {
		expect(t, fmt.Sprint("result ", i, " after a change of the arguments"), got[i], want[i])
	}
	for i := range got {
		spoilResult(got[i])
		for k := i + 1; k < len(got); k++ {
			expect(t, fmt.Sprint("result ", k, " after a change of result ", i), got[k], want[k])
		}
	}
}

// TestArguments calls the functions with spare capacity in all arguments, which stay as they are.
func TestArguments(t *testing.T) {
	c, l, tokens, chunks, src := arguments()
	everything := func() string {
		items, more := c.Items[:4], tokens[:5]
		return fmt.Sprint(items, items[0].Data[:3], items[1].Data[:4], l[:9], more, more[0].Data[:4], chunks[:2], chunks[0].Data[:3], src[:len(src)+2])
	}
	before := everything()
	dedup.Check(c)
	dedup.Add(c, l[:2])
	dedup.Add(dedup.Add(c, l[:2]), l[1:2])
	dedup.Find(c, c.Items[0].Digest)
	dedup.Encode(c, l, 2)
	dedup.Decode(c, tokens)
	dedup.Decode(c, dedup.Supply(tokens, chunks))
	dedup.Missing(c, tokens)
	dedup.PutTokens(src, tokens)
	dedup.Tokens(src)
	if after := everything(); after != before {
		t.Errorf("the arguments are %s, and were %s", after, before)
	}
}

// TestTokensOfOneList changes one of several elements of a result, which share no memory with each other.
func TestTokensOfOneList(t *testing.T) {
	for _, l := range [][]api.Token{
		dedup.Supply([]api.Token{ref(x), ref(x), whole(x)}, []api.Chunk{item(x)}),
		func() []api.Token {
			_, l, _ := dedup.Encode(storeOf(1), of(x, y, x), 1)
			return l
		}(),
	} {
		want := fmt.Sprint(l[1:])
		spoilTokens(l[:1:1])
		expect(t, "the other tokens", l[1:], want)
	}
}
