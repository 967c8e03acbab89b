package dictionary_test

import (
	"bytes"
	"math"
	"slices"
	"testing"

	"standby/api"
	"standby/dictionary"
	"standby/runlength"
	"standby/wire"
)

// encoding is the encoding of b by the definition: at each position all distances are tried.
func encoding(dict, b []byte) []byte {
	text := slices.Concat(dict, b)
	var out, run []byte
	for p := 0; p < len(b); {
		at, length, distance := len(dict)+p, 0, 0
		for d := 1; d <= 4096 && d <= at; d++ {
			n := 0
			for n < 131 && at+n < len(text) && text[at+n] == text[at+n-d] {
				n++
			}
			if n >= 4 && n > length {
				length, distance = n, d
			}
		}
		if length == 0 {
			run = append(run, b[p])
			p++
			continue
		}
		out = append(out, literals(run)...)
		out = append(out, match(length, distance)...)
		run = nil
		p += length
	}
	return append(out, literals(run)...)
}

// literals are the tokens of a run of literals.
func literals(run []byte) []byte {
	var out []byte
	for len(run) > 127 {
		out = append(append(out, 127), run[:127]...)
		run = run[127:]
	}
	if len(run) > 0 {
		out = append(append(out, byte(len(run))), run...)
	}
	return out
}

// match is the token of a match.
func match(length, distance int) []byte {
	return wire.PutInt([]byte{byte(124 + length)}, distance)
}

// decoding is the result of Decode by the definition, for a bound that is not negative.
func decoding(dict, b []byte, most int) ([]byte, api.Errno) {
	var out []byte
	for len(b) > 0 {
		first, rest := int(b[0]), b[1:]
		var add []byte
		switch {
		case first == 0:
			return nil, api.ErrForm
		case first < 128 && first > len(rest):
			return nil, api.ErrTorn
		case first < 128:
			add, b = rest[:first], rest[first:]
		default:
			distance, behind, err := wire.Int(rest)
			history := slices.Concat(dict, out)
			if err != api.OK {
				return nil, err
			}
			if distance == 0 || distance > 4096 || distance > len(history) {
				return nil, api.ErrForm
			}
			// What stands at the distance is repeated if the match is longer.
			add, b = slices.Repeat(history[len(history)-distance:], 131)[:first-124], behind
		}
		if len(out)+len(add) > most {
			return nil, api.ErrLong
		}
		out = append(out, add...)
	}
	return out, api.OK
}

// packing are the packed forms of sectors by each of the methods.
func packing(dict []byte, l []api.Sector) [3][]byte {
	b := join(l...)
	return [3][]byte{
		append([]byte{0}, b...),
		append([]byte{1}, runlength.Encode(l)...),
		append([]byte{2}, encoding(dict, b)...),
	}
}

// unpacking is the result of Unpack by the definition.
func unpacking(dict, b []byte, most int) ([]api.Sector, api.Errno) {
	switch {
	case most < 0 || most > 4096:
		return nil, api.ErrRange
	case len(b) == 0:
		return nil, api.ErrTorn
	case b[0] > 2:
		return nil, api.ErrForm
	case b[0] == 1:
		return runlength.Decode(b[1:], most)
	}
	data := b[1:]
	if b[0] == 2 {
		whole, err := decoding(dict, data, 8*most)
		if err != api.OK {
			return nil, err
		}
		data = whole
	}
	var l []api.Sector
	for ; len(data) >= 8; data = data[8:] {
		l = append(l, api.Sector(data[:8]))
	}
	switch {
	case len(data) > 0:
		return nil, api.ErrForm
	case len(l) > most:
		return nil, api.ErrLong
	}
	return l, api.OK
}

// join is the bytes of sectors.
func join(l ...api.Sector) []byte {
	var out []byte
	for _, s := range l {
		out = append(out, s[:]...)
	}
	return out
}

// random returns a source of numbers that are the same in each run.
func random(seed uint32) func(n int) int {
	return func(n int) int {
		seed = seed*1664525 + 1013904223
		return int(seed>>8) % n
	}
}

// noise are n bytes in which no four stand twice near each other.
func noise(seed uint32, n int) []byte {
	next := random(seed)
	var b []byte
	for range n {
		b = append(b, byte(next(256)))
	}
	return b
}

// up are the bytes from first on, n of them.
func up(first byte, n int) []byte {
	var b []byte
	for i := range n {
		b = append(b, first+byte(i))
	}
	return b
}

// strings are all strings of the first letters of the alphabet up to a length.
func strings(letters, most int) [][]byte {
	all := [][]byte{nil}
	for at := 0; len(all[at]) < most; at++ {
		for i := range letters {
			all = append(all, append(slices.Clone(all[at]), byte('a'+i)))
		}
	}
	return all
}

// pairs calls f with dictionaries and byte strings: repeated parts, near and far, and noise.
func pairs(f func(dict, b []byte)) {
	for _, dict := range [][]byte{nil, []byte("a"), []byte("ba"), []byte("abba"), []byte("aababb")} {
		for _, b := range strings(2, 9) {
			f(dict, b)
		}
	}
	for _, b := range strings(3, 7) {
		f([]byte("abcabac"), b)
	}
	next := random(29)
	for range 300 {
		letters := 1 + next(6)
		text := mixed(next, letters, next(900))
		cut := next(len(text) + 1)
		f(text[:cut], text[cut:])
	}
	for range 6 {
		text := mixed(next, 200, 9000)
		cut := next(6000)
		f(text[:cut], text[cut:])
	}
}

// mixed is a text of at least n bytes, of letters and of copies of its own parts.
func mixed(next func(int) int, letters, n int) []byte {
	var text []byte
	for len(text) < n {
		if len(text) == 0 || next(3) > 0 {
			for range 1 + next(9) {
				text = append(text, byte(next(letters)))
			}
			continue
		}
		from, length := next(len(text)), 1+next(200)
		for i := range length {
			text = append(text, text[from+i])
		}
	}
	return text
}

func TestP61Examples(t *testing.T) {
	for _, x := range []struct {
		dict, b string
		want    []byte
	}{
		{"", "", nil},
		{"abcd", "", nil},
		{"", "abcabcabcd", []byte{3, 'a', 'b', 'c', 130, 3, 1, 'd'}},
		{"abcd", "abcd", []byte{128, 4}},
		// Matches have at least four bytes.
		{"abc", "abc", []byte{3, 'a', 'b', 'c'}},
		{"abcd", "abc", []byte{3, 'a', 'b', 'c'}},
		{"", "aaaa", []byte{4, 'a', 'a', 'a', 'a'}},
		// They may be longer than their distance.
		{"", "aaaaa", []byte{1, 'a', 128, 1}},
		{"a", "aaaa", []byte{128, 1}},
		// They begin in the dictionary and go on behind it.
		{"xab", "ababab", []byte{130, 2}},
		{"abcdef", "efgefgabcd", []byte{6, 'e', 'f', 'g', 'e', 'f', 'g', 128, 12}},
		{"abcdef", "efghefgh", []byte{4, 'e', 'f', 'g', 'h', 128, 4}},
		// The longest one is taken, also where it is farther away.
		{"abcdeXabcdY", "abcde", []byte{129, 11}},
		// Of the same length the nearest one is taken.
		{"abcdXabcdY", "abcd", []byte{128, 5}},
		{"abcdeXabcdYabcdeZ", "abcde!", []byte{129, 6, 1, '!'}},
		// It is taken where it is found, even if a longer one begins behind.
		{"abcd bcdefg ", "abcdefg", []byte{128, 12, 3, 'e', 'f', 'g'}},
	} {
		if got := dictionary.Encode([]byte(x.dict), []byte(x.b)); !bytes.Equal(got, x.want) {
			t.Errorf("Encode of %q behind %q: got %v, want %v", x.b, x.dict, got, x.want)
		}
	}
}

func TestP61EncodeLengths(t *testing.T) {
	part := noise(1, 300)
	for _, x := range []struct {
		what          string
		dict, b, want []byte
	}{
		{"a match of 131", part[:131], part[:131], match(131, 131)},
		{"a match of 131 and four bytes", part[:135], part[:135], slices.Concat(match(131, 135), match(4, 135))},
		{"a match of 131 and three bytes", part[:134], part[:134], slices.Concat(match(131, 134), literals(part[131:134]))},
		{"two matches of 131", part[:262], part[:262], slices.Concat(match(131, 262), match(131, 262))},
		{"a byte 263 times", nil, bytes.Repeat([]byte{7}, 263), []byte{1, 7, 255, 1, 255, 1}},
		{"126 literals", nil, part[:126], append([]byte{126}, part[:126]...)},
		{"127 literals", nil, part[:127], append([]byte{127}, part[:127]...)},
		{"128 literals", nil, part[:128], slices.Concat([]byte{127}, part[:127], []byte{1}, part[127:128])},
		{"254 literals", nil, part[:254], slices.Concat([]byte{127}, part[:127], []byte{127}, part[127:254])},
		{"255 literals", nil, part[:255], slices.Concat([]byte{127}, part[:127], []byte{127}, part[127:254], []byte{1}, part[254:255])},
		{"128 literals before a match", part[200:210], slices.Concat(part[:128], part[200:210]), slices.Concat(literals(part[:128]), match(10, 138))},
		{"127 literals between matches", []byte("abcd"), slices.Concat([]byte("abcd"), part[:127], []byte("abcd")), slices.Concat(match(4, 4), literals(part[:127]), match(4, 131))},
	} {
		if got := dictionary.Encode(x.dict, x.b); !bytes.Equal(got, x.want) {
			t.Errorf("%s: got %v, want %v", x.what, got, x.want)
		}
	}
}

func TestP61EncodeDistances(t *testing.T) {
	word := []byte{1, 1, 2, 3, 5, 8}
	for _, d := range []int{6, 7, 127, 128, 129, 4000, 4095, 4096} {
		// Neither zeros nor the word are in what lies between.
		between := bytes.ReplaceAll(noise(9, d-6), []byte{1}, []byte{0})
		want := match(6, d)
		if got := dictionary.Encode(slices.Concat(word, between), word); !bytes.Equal(got, want) {
			t.Errorf("a match in the dictionary at %d: got %v, want %v", d, got, want)
		}
		if got := dictionary.Encode(slices.Concat([]byte("and more"), word, between), word); !bytes.Equal(got, want) {
			t.Errorf("a match in a longer dictionary at %d: got %v, want %v", d, got, want)
		}
		if got := dictionary.Encode(nil, slices.Concat(word, between, word)); !bytes.HasSuffix(got, want) {
			t.Errorf("a match behind the dictionary at %d: got %v, want %v at the end", d, got[max(0, len(got)-9):], want)
		}
	}
	between := bytes.ReplaceAll(noise(9, 4091), []byte{1}, []byte{0})
	if got := dictionary.Encode(slices.Concat(word, between), word); !bytes.Equal(got, literals(word)) {
		t.Errorf("a match at 4097: got %v", got)
	}
	if got := dictionary.Encode(slices.Concat(word, between), word[1:]); !bytes.Equal(got, match(5, 4096)) {
		t.Errorf("a match of five at 4096: got %v", got)
	}
	if got := dictionary.Encode(nil, slices.Concat(word, between, word)); !bytes.HasSuffix(got, word) {
		t.Errorf("a match behind the dictionary at 4097: got %v at the end", got[len(got)-9:])
	}
	// One byte later the others are near enough.
	if got, want := dictionary.Encode(slices.Concat(word, between[:4090], []byte{77}), slices.Concat([]byte{78}, word)), append([]byte{7, 78}, word...); !bytes.Equal(got, want) {
		t.Errorf("a match at 4097 behind a literal: got %v, want %v", got, want)
	}
}

func TestP61Encode(t *testing.T) {
	pairs(func(dict, b []byte) {
		if got, want := dictionary.Encode(dict, b), encoding(dict, b); !bytes.Equal(got, want) {
			t.Fatalf("Encode of %v behind %v: got %v, want %v", b, dict, got, want)
		}
	})
}

func TestP61Decode(t *testing.T) {
	nine := append(bytes.Repeat([]byte{255}, 8), 1)
	far := noise(4, 5000)
	for _, x := range []struct {
		what    string
		dict, b []byte
		most    int
		want    []byte
		err     api.Errno
	}{
		{"nothing", nil, nil, 0, nil, api.OK},
		{"nothing, with a negative bound", nil, nil, -1, nil, api.ErrRange},
		{"the least bound", nil, []byte{0}, math.MinInt, nil, api.ErrRange},
		{"the greatest bound", []byte("abcd"), []byte{128, 4, 1, 'x'}, math.MaxInt, []byte("abcdx"), api.OK},
		{"a match without a history", nil, []byte{128, 1}, 99, nil, api.ErrForm},
		{"a literal that is missing", nil, []byte{2, 97}, 99, nil, api.ErrTorn},
		{"the example", nil, []byte{3, 'a', 'b', 'c', 130, 3, 1, 'd'}, 10, []byte("abcabcabcd"), api.OK},

		// Tokens need not be those that Encode chooses.
		{"literals one by one", nil, []byte{1, 'a', 1, 'a', 1, 'a'}, 3, []byte("aaa"), api.OK},
		{"literals in place of a match", []byte("abcd"), []byte{4, 'a', 'b', 'c', 'd'}, 4, []byte("abcd"), api.OK},
		{"a short match in place of a long one", []byte("abcdef"), []byte{128, 6, 2, 'e', 'f'}, 6, []byte("abcdef"), api.OK},
		{"a far match in place of a near one", []byte("abcdabcd"), []byte{128, 8}, 4, []byte("abcd"), api.OK},

		// Matches of any length and distance.
		{"the longest match", []byte("a"), []byte{255, 1}, 131, bytes.Repeat([]byte("a"), 131), api.OK},
		{"a match at the beginning of the dictionary", []byte("abcdefg"), []byte{129, 7}, 9, []byte("abcde"), api.OK},
		{"a match that goes on behind the dictionary", []byte("abc"), []byte{130, 3}, 9, []byte("abcabc"), api.OK},
		{"a match behind literals", []byte("a"), []byte{1, 'b', 129, 2}, 9, []byte("bababa"), api.OK},
		{"a match at the distance 4096", far, match(5, 4096), 9, far[904:909], api.OK},
		{"a match at the distance 4097", far, match(5, 4097), 9, nil, api.ErrForm},
		{"a match at the distance 4096 without the history", far[:4095], match(5, 4096), 9, nil, api.ErrForm},
		{"a match at the distance 4096 of the least dictionary", far[:4096], match(5, 4096), 9, far[:5], api.OK},
		{"127 literals", nil, append([]byte{127}, far[:127]...), 127, far[:127], api.OK},

		// Errors of tokens, in their order.
		{"the byte 0", nil, []byte{0}, 99, nil, api.ErrForm},
		{"the byte 0 with other bytes", nil, []byte{0, 1, 'a'}, 0, nil, api.ErrForm},
		{"the byte 0 behind literals", nil, []byte{1, 'a', 0}, 99, nil, api.ErrForm},
		{"no literal", nil, []byte{1}, 99, nil, api.ErrTorn},
		{"126 of 127 literals", nil, append([]byte{127}, far[:126]...), 999, nil, api.ErrTorn},
		{"literals are missing and too many", nil, []byte{2, 97}, 1, nil, api.ErrTorn},
		{"too many literals", nil, []byte{2, 97, 98}, 1, nil, api.ErrLong},
		{"a literal, none allowed", nil, []byte{1, 97}, 0, nil, api.ErrLong},
		{"too many literals with the second token", nil, []byte{1, 97, 1, 98}, 1, nil, api.ErrLong},
		{"no distance", []byte("abcd"), []byte{128}, 99, nil, api.ErrTorn},
		{"a distance that is torn", []byte("abcd"), []byte{128, 132}, 99, nil, api.ErrTorn},
		{"a distance that is torn and a match too long", []byte("abcd"), []byte{128, 132}, 0, nil, api.ErrTorn},
		{"a distance with a last group 0", []byte("abcd"), []byte{128, 132, 0}, 99, nil, api.ErrForm},
		{"a distance with nine groups", []byte("abcd"), append([]byte{128}, nine...), 99, nil, api.ErrForm},
		{"the greatest distance", []byte("abcd"), append([]byte{128}, 255, 255, 255, 255, 255, 255, 255, 15), 99, nil, api.ErrForm},
		{"the distance 0", []byte("abcd"), []byte{128, 0}, 99, nil, api.ErrForm},
		{"the distance 0 and a match too long", []byte("abcd"), []byte{128, 0}, 0, nil, api.ErrForm},
		{"a distance beyond the history", []byte("abcd"), []byte{128, 5}, 99, nil, api.ErrForm},
		{"a distance beyond the history and a match too long", []byte("abcd"), []byte{128, 5}, 3, nil, api.ErrForm},
		{"a distance that only literals make possible", []byte("abcd"), []byte{1, 'e', 128, 5}, 99, []byte("eabcd"), api.OK},
		{"a match that is too long", []byte("abcd"), []byte{128, 4}, 3, nil, api.ErrLong},
		{"a match that is long enough", []byte("abcd"), []byte{128, 4}, 4, []byte("abcd"), api.OK},
		{"a second match that is too long", []byte("abcd"), []byte{128, 4, 128, 4}, 7, nil, api.ErrLong},

		// The first token that has an error decides.
		{"too long before the byte 0", nil, []byte{1, 97, 0}, 0, nil, api.ErrLong},
		{"the byte 0 before too long", nil, []byte{0, 1, 97}, 0, nil, api.ErrForm},
		{"torn behind a distance beyond the history", nil, []byte{128, 1, 4}, 99, nil, api.ErrForm},
	} {
		if got, err := dictionary.Decode(x.dict, x.b, x.most); err != x.err || !bytes.Equal(got, x.want) {
			t.Errorf("%s: got %v, %d, want %v, %d", x.what, got, err, x.want, x.err)
		}
	}
}

// tokens are tokens in any order, some of them with errors.
func tokens(next func(int) int) []byte {
	var b []byte
	for range next(7) {
		switch next(20) {
		case 0:
			b = append(b, byte(next(256)))
		case 1, 2, 3, 4, 5, 6:
			b = append(b, match(4+next(128)>>next(8), 1+next(20)<<next(10)*next(2))...)
		case 7:
			b = append(b, 200, 130, 0)
		default:
			b = append(b, literals(noise(uint32(next(999)), 1+next(20)))...)
		}
	}
	return b[:len(b)-next(2)*next(2)*min(len(b), next(3))]
}

func TestP61DecodeTokens(t *testing.T) {
	next, read, failed := random(77), 0, 0
	for range 30000 {
		dict := noise(3, []int{0, 1, 9, 130, 4096, 6000}[next(6)])
		b, most := tokens(next), next(200)<<next(4)
		got, err := dictionary.Decode(dict, b, most)
		want, wanted := decoding(dict, b, most)
		if err != wanted || !bytes.Equal(got, want) {
			t.Fatalf("Decode of %v behind %d bytes with the bound %d: got %v, %d, want %v, %d", b, len(dict), most, got, err, want, wanted)
		}
		if err == api.OK {
			read++
		} else {
			failed++
		}
	}
	if read < 2000 || failed < 2000 {
		t.Errorf("%d strings of tokens were decoded, %d refused", read, failed)
	}
}

// samples calls f with dictionaries and lists of sectors, for which each method is the shortest one of some.
func samples(f func(dict []byte, l []api.Sector)) {
	next := random(61)
	known := noise(8, 640)
	for i := range 600 {
		var l []api.Sector
		for range next(14) {
			s := []api.Sector{{}, {1}, api.Sector(known[8*next(80):][:8]), api.Sector(known[next(600):][:8]), api.Sector(noise(uint32(next(1<<20)), 8))}[next(1+next(5))]
			l = append(l, slices.Repeat([]api.Sector{s}, 1+next(2)*next(2)*next(5))...)
		}
		f(known[:min(len(known), i%3*400)], l)
	}
}

func TestP62Pack(t *testing.T) {
	var seen [3]int
	samples(func(dict []byte, l []api.Sector) {
		forms := packing(dict, l)
		want := forms[0]
		for _, p := range forms {
			if len(p) < len(want) {
				want = p
			}
		}
		seen[want[0]]++
		if got := dictionary.Pack(dict, l); !bytes.Equal(got, want) {
			t.Fatalf("Pack of %v: got %v, want %v", l, got, want)
		}
	})
	if slices.Min(seen[:]) < 20 {
		t.Errorf("the methods were used %v times", seen)
	}
}

func TestP62PackMethods(t *testing.T) {
	two := []api.Sector{{1, 2, 3, 4, 5, 6, 7, 8}, {9, 10, 11, 12, 13, 14, 15, 16}}
	letters := api.Sector([]byte("abcdefgh"))
	for _, x := range []struct {
		what string
		dict []byte
		l    []api.Sector
		want []byte
	}{
		{"different sectors", nil, two, append([]byte{0}, up(1, 16)...)},
		{"sectors of the dictionary", up(1, 16), two, []byte{2, 140, 16}},
		{"no sectors are packed by the least method", up(1, 16), nil, []byte{0}},
		{"a zero sector", nil, []api.Sector{{}}, []byte{1, 6}},
		{"zero sectors of the dictionary", make([]byte, 8), []api.Sector{{}}, []byte{1, 6}},
		{"equal sectors", nil, []api.Sector{letters, letters}, append([]byte{1, 9}, "abcdefgh"...)},
		{"equal sectors of the dictionary", []byte("abcdefgh"), []api.Sector{letters, letters}, []byte{2, 140, 8}},
		// Four bytes of 16 are matched by 2 bytes, the others are in two runs of literals: 16 bytes, as many as there are.
		{"the methods 0 and 2 are as long", nil, []api.Sector{{1, 2, 3, 4, 5, 6, 1, 2}, {3, 4, 7, 8, 9, 10, 11, 12}}, []byte{0, 1, 2, 3, 4, 5, 6, 1, 2, 3, 4, 7, 8, 9, 10, 11, 12}},
		{"method 2 is one byte shorter", nil, []api.Sector{{1, 2, 3, 4, 5, 6, 1, 2}, {3, 4, 5, 8, 9, 10, 11, 12}}, []byte{2, 6, 1, 2, 3, 4, 5, 6, 129, 6, 5, 8, 9, 10, 11, 12}},
		// A match of four bytes, four literals and a match of eight are as long as a repetition.
		{"the methods 1 and 2 are as long", []byte("abcd"), []api.Sector{letters, letters}, append([]byte{1, 9}, "abcdefgh"...)},
		{"method 2 is shorter than a repetition", []byte("abcde"), []api.Sector{letters, letters}, []byte{2, 129, 5, 3, 'f', 'g', 'h', 132, 8}},
	} {
		if got := dictionary.Pack(x.dict, x.l); !bytes.Equal(got, x.want) {
			t.Errorf("%s: got %v, want %v", x.what, got, x.want)
		}
	}
}

func TestP62Unpack(t *testing.T) {
	one, zero := up(1, 8), make([]byte, 8)
	eight := []api.Sector{api.Sector(one)}
	for _, x := range []struct {
		what    string
		dict, b []byte
		most    int
		want    []api.Sector
		err     api.Errno
	}{
		{"a negative bound", nil, nil, -1, nil, api.ErrRange},
		{"a bound beyond the sectors of a volume", nil, nil, 4097, nil, api.ErrRange},
		{"the least bound", nil, []byte{9}, math.MinInt, nil, api.ErrRange},
		{"the greatest bound", nil, []byte{0}, math.MaxInt, nil, api.ErrRange},
		{"the greatest bound that is allowed", nil, []byte{0}, 4096, nil, api.OK},
		{"nothing", nil, nil, 9, nil, api.ErrTorn},
		{"nothing, and nothing allowed", nil, nil, 0, nil, api.ErrTorn},
		{"the method 3", nil, []byte{3}, 9, nil, api.ErrForm},
		{"the method 255", nil, append([]byte{255}, one...), 0, nil, api.ErrForm},
		{"no sectors by method 0", nil, []byte{0}, 0, nil, api.OK},
		{"no sectors by method 1", nil, []byte{1}, 0, nil, api.OK},
		{"no sectors by method 2", nil, []byte{2}, 0, nil, api.OK},

		{"method 0", nil, append([]byte{0}, one...), 1, eight, api.OK},
		{"method 0 for what is shorter by method 1", nil, append([]byte{0}, zero...), 1, []api.Sector{{}}, api.OK},
		{"method 0 with seven bytes", nil, append([]byte{0}, one[:7]...), 9, nil, api.ErrForm},
		{"method 0 with nine bytes, no sector allowed", nil, slices.Concat([]byte{0}, one, []byte{1}), 0, nil, api.ErrForm},
		{"method 0 with too many sectors", nil, slices.Concat([]byte{0}, one, one), 1, nil, api.ErrLong},
		{"method 0 with a sector, none allowed", nil, append([]byte{0}, one...), 0, nil, api.ErrLong},

		{"method 1", nil, slices.Concat([]byte{1, 4}, one), 1, eight, api.OK},
		{"method 1 with too many sectors", nil, []byte{1, 10}, 1, nil, api.ErrLong},
		{"method 1 with no kind of a group", nil, []byte{1, 7}, 1, nil, api.ErrForm},
		{"method 1 with a torn group", nil, append([]byte{1, 4}, one[:7]...), 1, nil, api.ErrTorn},
		{"method 1 with a wrong division", nil, []byte{1, 6, 6}, 2, nil, api.ErrForm},

		{"method 2", up(1, 16), []byte{2, 140, 16}, 2, []api.Sector{api.Sector(one), api.Sector(up(9, 8))}, api.OK},
		{"method 2 with other tokens than those of the encoding", nil, slices.Concat([]byte{2, 3}, one[:3], []byte{5}, one[3:]), 1, eight, api.OK},
		{"method 2 without the dictionary", nil, []byte{2, 140, 16}, 2, nil, api.ErrForm},
		{"method 2 with the byte 0", nil, []byte{2, 0}, 2, nil, api.ErrForm},
		{"method 2 with torn literals", nil, []byte{2, 8, 1, 2}, 2, nil, api.ErrTorn},
		{"method 2 with a torn distance", one, []byte{2, 132}, 2, nil, api.ErrTorn},
		{"method 2 with too many bytes", up(1, 16), []byte{2, 140, 16}, 1, nil, api.ErrLong},
		{"method 2 with too many bytes, not those of sectors", nil, slices.Concat([]byte{2, 9}, one, []byte{1}), 1, nil, api.ErrLong},
		{"method 2 with nine bytes", nil, slices.Concat([]byte{2, 9}, one, []byte{1}), 2, nil, api.ErrForm},
		{"method 2 with seven bytes", nil, slices.Concat([]byte{2, 7}, one[:7]), 1, nil, api.ErrForm},
	} {
		if got, err := dictionary.Unpack(x.dict, x.b, x.most); err != x.err || !slices.Equal(got, x.want) {
			t.Errorf("%s: got %v, %d, want %v, %d", x.what, got, err, x.want, x.err)
		}
	}
}

// TestP62UnpackForms unpacks packed forms of each method, changed ones among them.
func TestP62UnpackForms(t *testing.T) {
	next := random(23)
	var seen [api.ErrStop + 1]int
	samples(func(dict []byte, l []api.Sector) {
		for _, p := range packing(dict, l) {
			for _, x := range [][]byte{p, p[:len(p)-1], append(p, byte(next(256))), slices.Replace(slices.Clone(p), next(len(p)), len(p), byte(next(256)))} {
				most := len(l) + next(5) - 2
				got, err := dictionary.Unpack(dict, x, most)
				want, wanted := unpacking(dict, x, most)
				if err != wanted || !slices.Equal(got, want) {
					t.Fatalf("Unpack of %v with the bound %d: got %v, %d, want %v, %d", x, most, got, err, want, wanted)
				}
				seen[err]++
			}
		}
	})
	for _, err := range []api.Errno{api.OK, api.ErrRange, api.ErrForm, api.ErrLong, api.ErrTorn} {
		if seen[err] < 10 {
			t.Errorf("the error %d was found %d times", err, seen[err])
		}
	}
}

func TestP63DecodedFromEncoding(t *testing.T) {
	pairs(func(dict, b []byte) {
		x := dictionary.Encode(dict, b)
		if got, err := dictionary.Decode(dict, x, len(b)); err != api.OK || !bytes.Equal(got, b) {
			t.Fatalf("%v behind %v is decoded as %v, %d", b, dict, got, err)
		}
		if got, err := dictionary.Decode(dict, x, len(b)-1); err == api.OK || len(got) > 0 {
			t.Fatalf("%v behind %v is decoded with a smaller bound as %v, %d", b, dict, got, err)
		}
	})
}

func TestP63UnpackedFromPacked(t *testing.T) {
	check := func(dict []byte, l []api.Sector) {
		p := dictionary.Pack(dict, l)
		if got, err := dictionary.Unpack(dict, p, len(l)); err != api.OK || !slices.Equal(got, l) {
			t.Fatalf("%v is unpacked as %v, %d", l, got, err)
		}
		if len(p) > 1+8*len(l) {
			t.Fatalf("%d sectors are packed as %d bytes", len(l), len(p))
		}
		for _, form := range packing(dict, l) {
			if got, err := dictionary.Unpack(dict, form, len(l)); err != api.OK || !slices.Equal(got, l) {
				t.Fatalf("%v is unpacked by method %d as %v, %d", l, form[0], got, err)
			}
		}
	}
	samples(check)
	check(nil, make([]api.Sector, 4096))
	check(noise(2, 5000), slices.Repeat([]api.Sector{{1}, {2}}, 2048))
	var l []api.Sector
	for s := range slices.Chunk(noise(6, 8*300), 8) {
		l = append(l, api.Sector(s))
	}
	check(noise(6, 400), l)
}

func TestP63SingleToken(t *testing.T) {
	next := random(50)
	for n := 4; n <= 131; n++ {
		for _, dict := range [][]byte{noise(7, n), noise(7, 500), noise(7, 4096), noise(7, 9000), bytes.Repeat([]byte("aab"), 80), make([]byte, 300), mixed(next, 3, 300)} {
			b := slices.Clone(dict[len(dict)-n:])
			x := dictionary.Encode(dict, b)
			if distance, rest, err := wire.Int(x[1:]); int(x[0]) != 124+n || err != api.OK || len(rest) > 0 || distance > n {
				t.Fatalf("the %d bytes at the end of %d bytes are encoded as %v", n, len(dict), x)
			}
		}
	}
}

// TestValues calls the functions with parts of arrays, which must stay as they are, and changes arguments and results.
func TestValues(t *testing.T) {
	text := slices.Concat(up(1, 40), up(1, 40))
	whole := slices.Clone(text)
	sectors := []api.Sector{{1, 2, 3, 4, 5, 6, 7, 8}, {1}, {2}}
	dict := text[:12]
	x := dictionary.Encode(dict, text[40:48])
	p := dictionary.Pack(dict, sectors[:1])
	b, err := dictionary.Decode(dict, x, 8)
	if err != api.OK || !bytes.Equal(b, whole[:8]) {
		t.Fatalf("got %v, %d", b, err)
	}
	l, err := dictionary.Unpack(dict, p, 8)
	if err != api.OK || !slices.Equal(l, sectors[:1]) {
		t.Fatalf("got %v, %d", l, err)
	}
	raw, err := dictionary.Unpack(dict, append([]byte{0}, text[:16]...)[:9], 8)
	if err != api.OK || !slices.Equal(raw, sectors[:1]) {
		t.Fatalf("got %v, %d", raw, err)
	}
	for _, result := range [][]byte{x, p, b} {
		result = result[:cap(result)]
		for i := range result {
			result[i] = 99
		}
	}
	if !bytes.Equal(text, whole) || sectors[1] != (api.Sector{1}) {
		t.Errorf("an argument or its spare capacity is changed to %v, %v", text, sectors)
	}
	b, _ = dictionary.Decode(dict, append([]byte{8}, text[:8]...), 8)
	b = append(b, 1)
	for i := range text {
		text[i] = 77
	}
	if !bytes.Equal(b[:8], whole[:8]) || !slices.Equal(l, []api.Sector{{1, 2, 3, 4, 5, 6, 7, 8}}) {
		t.Errorf("a change of an argument changes a result to %v, %v", b, l)
	}
}
