package consistency_test

import (
	"math"
	"slices"
	"testing"

	"standby/api"
	"standby/consistency"
	"standby/cut"
	"standby/history"
	"standby/image"
)

// random returns numbers from 0 to n - 1 that look random.
func random(seed uint32) func(n int) int {
	return func(n int) int {
		seed = seed*1664525 + 1013904223
		return int(seed>>8) % n
	}
}

func issue(write int) api.HistoryEvent {
	return api.HistoryEvent{Kind: api.EventIssue, Write: write}
}

func ack(write int) api.HistoryEvent {
	return api.HistoryEvent{Kind: api.EventAck, Write: write}
}

// list are sectors with letters; a dot is a zero sector.
func list(letters string) []api.Sector {
	var l []api.Sector
	for _, c := range []byte(letters) {
		if c == '.' {
			c = 0
		}
		l = append(l, api.Sector{0, 0, c})
	}
	return l
}

// write writes letters.
func write(volume, start int, letters string) api.Write {
	return api.Write{Volume: volume, Start: start, Data: list(letters)}
}

// picture is the image whose volumes have letters.
func picture(volumes ...string) api.Image {
	var im api.Image
	for _, letters := range volumes {
		im = append(im, list(letters))
	}
	return im
}

// example is the history of the chapter's examples.
func example() api.History {
	return api.History{
		Sizes:  []int{3},
		Writes: []api.Write{write(0, 0, "a"), write(0, 1, "b"), write(0, 0, "cd")},
		Events: []api.HistoryEvent{issue(0), ack(0), issue(1), ack(1), issue(2)},
	}
}

// orders are the events of all correct histories of at most n writes.
func orders(n int) [][]api.HistoryEvent {
	var all [][]api.HistoryEvent
	var extend func(events []api.HistoryEvent, issued int)
	extend = func(events []api.HistoryEvent, issued int) {
		all = append(all, slices.Clone(events))
		if issued < n {
			extend(append(slices.Clip(events), issue(issued)), issued+1)
		}
		for w := range issued {
			if !slices.Contains(events, ack(w)) {
				extend(append(slices.Clip(events), ack(w)), issued)
			}
		}
	}
	extend(nil, 0)
	return all
}

// of is a history with some events, and as many of some writes as these issue.
func of(sizes []int, writes []api.Write, events []api.HistoryEvent) api.History {
	h := api.History{Sizes: sizes, Events: events}
	for _, e := range events {
		if e.Kind == api.EventIssue {
			h.Writes = append(h.Writes, writes[e.Write])
		}
	}
	return h
}

// small are distinct histories of at most three writes, which meet each other in several ways, in all orders.
func small() []api.History {
	var all []api.History
	for _, events := range orders(3) {
		for _, writes := range [][]api.Write{
			{write(0, 0, "a"), write(0, 0, "b"), write(0, 0, "c")},
			{write(0, 0, "ab"), write(0, 1, "ca"), write(0, 0, "ddd")},
			{write(0, 1, "aa"), write(0, 0, "bb"), write(0, 1, "cb")},
			{write(0, 0, "abc"), write(0, 1, "e"), write(0, 2, "f")},
			{write(0, 2, "a"), write(0, 1, "a"), write(0, 0, "a")},
		} {
			all = append(all, of([]int{3}, writes, events))
		}
		all = append(all, of([]int{2, 1}, []api.Write{write(1, 0, "a"), write(0, 0, "ab"), write(1, 0, "b")}, events))
		all = append(all, of([]int{1, 2}, []api.Write{write(1, 0, "ab"), write(0, 0, "a"), write(1, 1, "c")}, events))
	}
	return all
}

// randomHistory is a distinct history of n writes to volumes of the sizes 3 and 2.
func randomHistory(next func(int) int, n int) api.History {
	var events []api.HistoryEvent
	var writes []api.Write
	var open []int
	for len(writes) < n || len(open) > 0 && next(4) > 0 {
		if i := len(open); i > 0 && (len(writes) == n || next(2) == 0) {
			i = next(i)
			events = append(events, ack(open[i]))
			open = slices.Delete(open, i, i+1)
			continue
		}
		volume := next(2)
		start := next(3 - volume)
		w := api.Write{Volume: volume, Start: start}
		for range 1 + next(3-volume-start) {
			w.Data = append(w.Data, api.Sector{byte(len(writes) + 1), byte(next(2))})
		}
		events = append(events, issue(len(writes)))
		open = append(open, len(writes))
		writes = append(writes, w)
	}
	return of([]int{3, 2}, writes, events)
}

// randomHistories are distinct histories of several writes.
func randomHistories(seed uint32) []api.History {
	var all []api.History
	next := random(seed)
	for i := range 60 {
		all = append(all, randomHistory(next, 3+i%5))
	}
	return all
}

// contents are what may be in a sector: zero, what is written to it, and something else.
func contents(h api.History, volume, sector int) []api.Sector {
	l := list(".?")
	for _, w := range h.Writes {
		if i := sector - w.Start; w.Volume == volume && i >= 0 && i < len(w.Data) {
			l = append(l, w.Data[i])
		}
	}
	return l
}

// images are all images of such contents.
func images(h api.History) []api.Image {
	all := []api.Image{{}}
	for volume, size := range h.Sizes {
		all = crossed(all, func(im api.Image) api.Image { return append(im, nil) })
		for sector := range size {
			var next []api.Image
			for _, content := range contents(h, volume, sector) {
				next = append(next, crossed(all, func(im api.Image) api.Image {
					im[volume] = append(im[volume], content)
					return im
				})...)
			}
			all = next
		}
	}
	return all
}

// crossed are copies of images that are changed.
func crossed(all []api.Image, change func(im api.Image) api.Image) []api.Image {
	var l []api.Image
	for _, im := range all {
		l = append(l, change(copyOf(im)))
	}
	return l
}

func copyOf(im api.Image) api.Image {
	var l api.Image
	for _, volume := range im {
		l = append(l, slices.Clone(volume))
	}
	return l
}

// someImages are images of some of such contents.
func someImages(next func(int) int, h api.History, n int) []api.Image {
	var all []api.Image
	for range n {
		var im api.Image
		for volume, size := range h.Sizes {
			im = append(im, nil)
			for sector := range size {
				l := contents(h, volume, sector)
				im[volume] = append(im[volume], l[next(len(l))])
			}
		}
		all = append(all, im)
	}
	return all
}

// before is the definition: the event that acknowledges a stands before the one that issues b.
func before(h api.History, a, b int) bool {
	acked := slices.Index(h.Events, ack(a))
	return acked >= 0 && acked < slices.Index(h.Events, issue(b))
}

// cuts are all cuts of a history of few writes.
func cuts(h api.History) [][]int {
	var all [][]int
	for bits := range 1 << len(h.Writes) {
		closed := true
		var set []int
		for b := range h.Writes {
			if bits>>b&1 == 0 {
				continue
			}
			set = append(set, b)
			for a := range h.Writes {
				closed = closed && (bits>>a&1 == 1 || !before(h, a, b))
			}
		}
		if closed {
			all = append(all, set)
		}
	}
	return all
}

// exposed is the image of a set of writes, sector by sector.
func exposed(h api.History, set []int) api.Image {
	var im api.Image
	for _, size := range h.Sizes {
		im = append(im, make([]api.Sector, size))
	}
	for _, n := range set {
		for i, content := range h.Writes[n].Data {
			im[h.Writes[n].Volume][h.Writes[n].Start+i] = content
		}
	}
	return im
}

// within reports whether all elements of a list are in another one.
func within(a, b []int) bool {
	return !slices.ContainsFunc(a, func(w int) bool { return !slices.Contains(b, w) })
}

// with are the cuts of a list whose image is im.
func with(h api.History, all [][]int, im api.Image) [][]int {
	return slices.DeleteFunc(slices.Clone(all), func(c []int) bool { return !image.Same(exposed(h, c), im) })
}

// extremes are a cut of a list that all others contain, and one that contains all others.
func extremes(t *testing.T, all [][]int) (least, greatest []int) {
	t.Helper()
	find := func(fits func(a, b []int) bool) []int {
		i := slices.IndexFunc(all, func(a []int) bool {
			return !slices.ContainsFunc(all, func(b []int) bool { return !fits(a, b) })
		})
		if i < 0 {
			t.Fatalf("none of the cuts %v is the least or the greatest one", all)
		}
		return all[i]
	}
	return find(within), find(func(a, b []int) bool { return within(b, a) })
}

// conflict is the definition for an image that is that of no cut.
func conflict(h api.History, im api.Image) api.Write {
	var authors []int
	for volume := range im {
		for sector, content := range im[volume] {
			if content == (api.Sector{}) {
				continue
			}
			author := slices.IndexFunc(h.Writes, func(w api.Write) bool {
				i := sector - w.Start
				return w.Volume == volume && i >= 0 && i < len(w.Data) && w.Data[i] == content
			})
			if author < 0 {
				return api.Write{Volume: volume, Start: sector, Data: []api.Sector{content}}
			}
			authors = append(authors, author)
		}
	}
	var candidate []int
	for a := range h.Writes {
		if slices.Contains(authors, a) || slices.ContainsFunc(authors, func(b int) bool { return before(h, a, b) }) {
			candidate = append(candidate, a)
		}
	}
	for volume, sectors := range exposed(h, candidate) {
		for sector, content := range sectors {
			if content != im[volume][sector] {
				return api.Write{Volume: volume, Start: sector, Data: []api.Sector{content}}
			}
		}
	}
	return api.Write{}
}

// expect reports a cut or an error that is not the wanted one; beside an error, and if there is none, the list has to be empty.
func expect(t *testing.T, what string, got []int, found bool, err api.Errno, want []int, is bool, code api.Errno) {
	t.Helper()
	if err != code || found != is || !slices.Equal(got, want) {
		t.Errorf("%s: got %v, %v, %d, want %v, %v, %d", what, got, found, err, want, is, code)
	}
}

// expectConflict does the same for conflicts.
func expectConflict(t *testing.T, h api.History, im api.Image, want api.Write, is bool, code api.Errno) {
	t.Helper()
	got, found, err := consistency.Conflict(h, im)
	if err != code || found != is || !sameWrite(got, want) {
		t.Errorf("Conflict of %v: got %v, %v, %d, want %v, %v, %d", im, got, found, err, want, is, code)
	}
}

func sameWrite(a, b api.Write) bool {
	return a.Volume == b.Volume && a.Start == b.Start && slices.Equal(a.Data, b.Data)
}

// expectCuts reports wrong results of Find and Newest.
func expectCuts(t *testing.T, h api.History, im api.Image, least, greatest []int, is bool, code api.Errno) {
	t.Helper()
	got, found, err := consistency.Find(h, im)
	expect(t, "Find", got, found, err, least, is, code)
	got, found, err = consistency.Newest(h, im)
	expect(t, "Newest", got, found, err, greatest, is, code)
}

// expectJudged compares all results for an image with those of the definitions.
func expectJudged(t *testing.T, h api.History, all [][]int, im api.Image) {
	t.Helper()
	if matching := with(h, all, im); len(matching) > 0 {
		least, greatest := extremes(t, matching)
		expectCuts(t, h, im, least, greatest, true, api.OK)
		expectConflict(t, h, im, api.Write{}, false, api.OK)
	} else {
		expectCuts(t, h, im, nil, nil, false, api.OK)
		expectConflict(t, h, im, conflict(h, im), true, api.OK)
	}
}

func TestP181Examples(t *testing.T) {
	for im, want := range map[string][]int{"...": nil, "a..": {0}, "ab.": {0, 1}, "cd.": {0, 1, 2}} {
		expectCuts(t, example(), picture(im), want, want, true, api.OK)
	}
	for _, im := range []string{".b.", "ae.", "cb.", "c..", ".d.", "ad.", "..a", "..e", "ba.", "a.b"} {
		expectCuts(t, example(), picture(im), nil, nil, false, api.OK)
	}
}

func TestP181Newest(t *testing.T) {
	// Write 1 leaves no trace behind write 2, whether it is in the cut or not; write 3 is not before anything.
	h := of([]int{1, 2}, []api.Write{write(1, 0, "a"), write(0, 0, "b"), write(0, 0, "c"), write(1, 1, "d")}, []api.HistoryEvent{issue(0), issue(1), issue(2), ack(0), issue(3)})
	expectCuts(t, h, picture("c", ".."), []int{2}, []int{1, 2}, true, api.OK)
	expectCuts(t, h, picture("b", ".."), []int{1}, []int{1}, true, api.OK)
	expectCuts(t, h, picture("c", "ad"), []int{0, 2, 3}, []int{0, 1, 2, 3}, true, api.OK)
	// Write 1 is hidden behind write 2; write 0, which both need, shows up.
	h = of([]int{2}, []api.Write{write(0, 0, "a"), write(0, 1, "b"), write(0, 1, "c")}, []api.HistoryEvent{issue(0), ack(0), issue(1), issue(2)})
	expectCuts(t, h, picture("ac"), []int{0, 2}, []int{0, 1, 2}, true, api.OK)
	expectCuts(t, h, picture(".c"), nil, nil, false, api.OK)
	// Write 1 would be hidden in one of its sectors, and shows in the other one; write 3 would hide the author.
	h = of([]int{2}, []api.Write{write(0, 1, "a"), write(0, 0, "bb"), write(0, 1, "c"), write(0, 1, "d")}, []api.HistoryEvent{issue(0), issue(1), issue(2), issue(3)})
	expectCuts(t, h, picture(".c"), []int{2}, []int{0, 2}, true, api.OK)
	expectCuts(t, h, picture(".d"), []int{3}, []int{0, 2, 3}, true, api.OK)
	expectCuts(t, h, picture("bd"), []int{1, 3}, []int{0, 1, 2, 3}, true, api.OK)
	expectCuts(t, h, picture(".."), nil, nil, true, api.OK)
}

// distinct is the definition: no two writers of a sector write the same to it, and none writes zero.
func distinct(h api.History) bool {
	for volume, size := range h.Sizes {
		for sector := range size {
			written := contents(h, volume, sector)[2:]
			for i, content := range written {
				if content == (api.Sector{}) || slices.Contains(written[:i], content) {
					return false
				}
			}
		}
	}
	return true
}

func TestP181Distinct(t *testing.T) {
	for _, h := range append(small(), randomHistories(1)...) {
		if !consistency.Distinct(h) {
			t.Errorf("Distinct of %v: got false", h.Writes)
		}
	}
	// All histories of three writes of one or two of three sectors, with a zero sector and two others.
	var writes []api.Write
	for start := range 3 {
		for _, letters := range []string{".", "a", "b", "aa", "ab", "a.", ".b"} {
			if start+len(letters) <= 3 {
				writes = append(writes, write(0, start, letters))
			}
		}
	}
	events := []api.HistoryEvent{issue(0), ack(0), issue(1), issue(2)}
	for _, a := range writes {
		for _, b := range writes {
			for _, c := range writes {
				h := of([]int{3}, []api.Write{a, b, c}, events)
				if got, want := consistency.Distinct(h), distinct(h); got != want {
					t.Errorf("Distinct of %v: got %v", h.Writes, got)
				}
			}
		}
	}
	for _, w := range wrongHistories() {
		if consistency.Distinct(w.h) {
			t.Errorf("Distinct of a history with the error %d: got true", w.err)
		}
	}
	for _, h := range notDistinct() {
		if consistency.Distinct(h) {
			t.Errorf("Distinct of %v: got true", h.Writes)
		}
	}
}

func TestP181DistinctVolumes(t *testing.T) {
	none := []api.HistoryEvent{issue(0), issue(1)}
	for _, c := range []struct {
		a, b api.Write
		want bool
	}{
		{write(0, 0, "a"), write(1, 0, "a"), true},
		{write(0, 1, "a"), write(1, 1, "a"), true},
		{write(1, 1, "a"), write(1, 0, "aa"), false},
		{write(1, 1, "a"), write(1, 0, "ab"), true},
		{write(0, 0, "aa"), write(1, 0, "aa"), true},
		{write(0, 0, "b"), write(1, 0, "."), false},
		{write(1, 0, "bb"), write(0, 1, "b."), false},
	} {
		if got := consistency.Distinct(of([]int{3, 2}, []api.Write{c.a, c.b}, none)); got != c.want {
			t.Errorf("Distinct of %v and %v: got %v", c.a, c.b, got)
		}
	}
	// Contents differ in any byte.
	for i := range api.SectorSize {
		a, b := api.Sector{1, 2, 3, 4, 5, 6, 7, 8}, api.Sector{1, 2, 3, 4, 5, 6, 7, 8}
		b[i] = 9
		if h := of([]int{1}, []api.Write{{Data: []api.Sector{a}}, {Data: []api.Sector{b}}}, none); !consistency.Distinct(h) {
			t.Errorf("Distinct of %v: got false", h.Writes)
		}
	}
}

// wrong is a history that is not correct, with the error of history.Check.
type wrong struct {
	h   api.History
	err api.Errno
}

func wrongHistories() []wrong {
	changed := func(f func(h *api.History)) api.History {
		h := example()
		f(&h)
		return h
	}
	return []wrong{
		{api.History{}, api.ErrMany},
		{changed(func(h *api.History) { h.Sizes = slices.Repeat([]int{3}, 9) }), api.ErrMany},
		{changed(func(h *api.History) { h.Sizes = []int{0} }), api.ErrRange},
		{changed(func(h *api.History) { h.Sizes = []int{4097} }), api.ErrRange},
		{changed(func(h *api.History) { h.Writes = slices.Repeat(h.Writes, 1366) }), api.ErrMany},
		{changed(func(h *api.History) { h.Writes[1].Volume = 1 }), api.ErrNone},
		{changed(func(h *api.History) { h.Writes[1].Volume = math.MinInt }), api.ErrNone},
		{changed(func(h *api.History) { h.Writes[1].Data = nil }), api.ErrArg},
		{changed(func(h *api.History) { h.Writes[2].Start = 2 }), api.ErrRange},
		{changed(func(h *api.History) { h.Writes[2].Start = math.MaxInt }), api.ErrRange},
		{changed(func(h *api.History) { h.Events = h.Events[:4] }), api.ErrForm},
		{changed(func(h *api.History) { h.Events[4].Kind = 2 }), api.ErrForm},
		{changed(func(h *api.History) { h.Events[4].Write = 1 }), api.ErrForm},
		{changed(func(h *api.History) { h.Events[1].Write = 1 }), api.ErrNone},
		{changed(func(h *api.History) { h.Events[3].Write = 0 }), api.ErrTwice},
		// Neither is distinct.
		{changed(func(h *api.History) { h.Writes[2] = write(0, 0, "ab"); h.Events[3].Write = 0 }), api.ErrTwice},
		{changed(func(h *api.History) { h.Writes[0] = write(0, 0, "."); h.Events[1].Write = -1 }), api.ErrNone},
	}
}

// notDistinct are correct histories of three sectors that are not distinct.
func notDistinct() []api.History {
	var all []api.History
	for _, writes := range [][]api.Write{
		{write(0, 0, "a"), write(0, 0, "b"), write(0, 0, "a")},
		{write(0, 0, "a"), write(0, 0, "a"), write(0, 0, "b")},
		{write(0, 0, "ab"), write(0, 1, "c"), write(0, 1, "b")},
		{write(0, 0, "abc"), write(0, 1, "cc"), write(0, 0, "c")},
		{write(0, 0, "."), write(0, 0, "b"), write(0, 0, "c")},
		{write(0, 0, "a"), write(0, 0, "b"), write(0, 0, "c.d")},
		{write(0, 0, "a"), write(0, 0, "b"), write(0, 2, ".")},
	} {
		all = append(all, of([]int{3}, writes, example().Events))
	}
	return all
}

// wrongImages are images that are not correct, with the errors of image.Check.
func wrongImages() map[api.Errno][]api.Image {
	return map[api.Errno][]api.Image{
		api.ErrMany:  {nil, {}, slices.Repeat(picture("..."), 9)},
		api.ErrRange: {{nil}, picture(""), picture("...", ""), {make([]api.Sector, 4097)}, {make([]api.Sector, 3), nil}},
	}
}

// otherImages are correct images with other sizes than three sectors.
func otherImages() []api.Image {
	return []api.Image{picture("ab"), picture("ab.."), picture("ab.", "."), picture("a", "b", "."), {make([]api.Sector, 4096)}, slices.Repeat(picture("..."), 8)}
}

func expectErrors(t *testing.T, h api.History, im api.Image, code api.Errno) {
	t.Helper()
	expectCuts(t, h, im, nil, nil, false, code)
	expectConflict(t, h, im, api.Write{}, false, code)
}

func TestP181AndP182Errors(t *testing.T) {
	for _, w := range wrongHistories() {
		// The history is checked before the image.
		for _, im := range []api.Image{nil, picture("..."), picture("ab."), picture(".b."), picture(".."), picture("")} {
			expectErrors(t, w.h, im, w.err)
		}
	}
	for _, h := range append(notDistinct(), example()) {
		// The image is checked before its sizes, and these before that the history is distinct.
		for code, l := range wrongImages() {
			for _, im := range l {
				expectErrors(t, h, im, code)
			}
		}
		for _, im := range otherImages() {
			expectErrors(t, h, im, api.ErrMismatch)
		}
	}
	for _, h := range notDistinct() {
		for _, im := range []string{"...", "a..", "abc", "e.."} {
			expectErrors(t, h, picture(im), api.ErrArg)
		}
	}
	two := of([]int{1, 2}, nil, nil)
	for _, im := range []api.Image{picture("..", "."), picture("."), picture("..."), picture(".", ".", ".")} {
		expectErrors(t, two, im, api.ErrMismatch)
	}
}

func TestP181AndP182Small(t *testing.T) {
	for _, h := range small() {
		all := cuts(h)
		for _, im := range images(h) {
			expectJudged(t, h, all, im)
		}
	}
}

func TestP181AndP182Random(t *testing.T) {
	next := random(18)
	for _, h := range randomHistories(2) {
		all := cuts(h)
		for _, im := range someImages(next, h, 100) {
			expectJudged(t, h, all, im)
		}
		for _, c := range all {
			im := exposed(h, c)
			expectJudged(t, h, all, im)
			// One sector is different.
			volume := next(2)
			sector := next(h.Sizes[volume])
			for _, content := range contents(h, volume, sector) {
				im[volume][sector] = content
				expectJudged(t, h, all, im)
			}
		}
	}
}

func TestP181AndP182Empty(t *testing.T) {
	h := of([]int{2, 1}, nil, nil)
	expectCuts(t, h, picture("..", "."), nil, nil, true, api.OK)
	expectConflict(t, h, picture("..", "."), api.Write{}, false, api.OK)
	expectCuts(t, h, picture("..", "a"), nil, nil, false, api.OK)
	expectConflict(t, h, picture("..", "a"), write(1, 0, "a"), true, api.OK)
}

func TestP181AndP182Most(t *testing.T) {
	// Each write is acknowledged before the next one is issued, but for write 5, and all write to the last sector.
	h := api.History{Sizes: slices.Repeat([]int{4096}, 8)}
	content := func(n int) api.Sector { return api.Sector{byte(n), byte(n >> 8), 1} }
	var whole []int
	for n := range api.MaxWrites {
		h.Writes = append(h.Writes, api.Write{Volume: 7, Start: 4095, Data: []api.Sector{content(n)}})
		h.Events = append(h.Events, issue(n), ack(n))
		whole = append(whole, n)
	}
	h.Events = slices.DeleteFunc(h.Events, func(e api.HistoryEvent) bool { return e == ack(5) })
	without := slices.Concat(whole[:5], whole[6:])
	im := exposed(h, whole)
	expectCuts(t, h, im, without, whole, true, api.OK)
	expectConflict(t, h, im, api.Write{}, false, api.OK)
	im[7][4095] = content(2000)
	expectCuts(t, h, im, without[:2000], whole[:2001], true, api.OK)
	im[7][4095] = api.Sector{}
	expectCuts(t, h, im, nil, nil, true, api.OK)
	im[7][4095] = content(4096)
	expectCuts(t, h, im, nil, nil, false, api.OK)
	expectConflict(t, h, im, api.Write{Volume: 7, Start: 4095, Data: []api.Sector{content(4096)}}, true, api.OK)
	h.Writes[4095].Data = []api.Sector{content(0)}
	if consistency.Distinct(h) {
		t.Errorf("Distinct of a history whose first and last write are equal: got true")
	}
}

func TestP181AndP182Large(t *testing.T) {
	// Two writes fill each of eight volumes, the second one behind the first one.
	h := api.History{Sizes: slices.Repeat([]int{4096}, 8)}
	for n := range 16 {
		h.Writes = append(h.Writes, api.Write{Volume: n / 2, Data: slices.Repeat([]api.Sector{{byte(n + 1)}}, 4096)})
		h.Events = append(h.Events, issue(n), ack(n))
	}
	im := exposed(h, []int{0, 1, 2, 3, 4})
	expectCuts(t, h, im, []int{0, 1, 2, 3, 4}, []int{0, 1, 2, 3, 4}, true, api.OK)
	im[2][4095] = api.Sector{6}
	expectCuts(t, h, im, nil, nil, false, api.OK)
	expectConflict(t, h, im, api.Write{Volume: 2, Start: 0, Data: []api.Sector{{6}}}, true, api.OK)
	im[7][4095] = api.Sector{1}
	expectConflict(t, h, im, api.Write{Volume: 7, Start: 4095, Data: []api.Sector{{1}}}, true, api.OK)
}

func TestP182Examples(t *testing.T) {
	for _, im := range []string{"...", "a..", "ab.", "cd."} {
		expectConflict(t, example(), picture(im), api.Write{}, false, api.OK)
	}
	for im, want := range map[string]api.Write{
		".b.": write(0, 0, "a"), "ae.": write(0, 1, "e"), "cb.": write(0, 1, "d"), "c..": write(0, 1, "d"), ".d.": write(0, 0, "c"), "..a": write(0, 2, "a"), "ba.": write(0, 0, "b"),
		// What is unknown comes first, wherever it is.
		".bx": write(0, 2, "x"), "cbx": write(0, 2, "x"), ".ye": write(0, 1, "y"),
	} {
		expectConflict(t, example(), picture(im), want, true, api.OK)
	}
}

func TestP182Volumes(t *testing.T) {
	h := of([]int{2, 2, 1}, []api.Write{write(2, 0, "a"), write(1, 0, "bc"), write(0, 1, "d")}, []api.HistoryEvent{issue(0), ack(0), issue(1), ack(1), issue(2)})
	for _, c := range []struct {
		im   api.Image
		want api.Write
	}{
		// The candidate lacks nothing of writes 0 and 1, the image does.
		{picture(".d", "..", "."), write(1, 0, "b")},
		{picture(".d", "b.", "."), write(1, 1, "c")},
		{picture(".d", "bc", "."), write(2, 0, "a")},
		{picture("..", "bc", "."), write(2, 0, "a")},
		{picture("..", ".c", "a"), write(1, 0, "b")},
		{picture("..", ".c", "x"), write(2, 0, "x")},
		{picture("d.", "..", "x"), write(0, 0, "d")},
		{picture("..", ".b", "c"), write(1, 1, "b")},
		{picture("..", "..", "b"), write(2, 0, "b")},
	} {
		expectCuts(t, h, c.im, nil, nil, false, api.OK)
		expectConflict(t, h, c.im, c.want, true, api.OK)
	}
}

func TestP183Cuts(t *testing.T) {
	for _, h := range append(small(), randomHistories(3)...) {
		all, err := cut.All(h, api.MaxSteps)
		if err != api.OK {
			t.Fatalf("All of %v: got %d", h, err)
		}
		for _, c := range all {
			im, _ := history.Image(h, c)
			least, found, err := consistency.Find(h, im)
			if err != api.OK || !found {
				t.Fatalf("the image of the cut %v of %v is not found: %d", c, h, err)
			}
			greatest, found, err := consistency.Newest(h, im)
			if err != api.OK || !found || !within(least, c) || !within(c, greatest) {
				t.Fatalf("%v: beside the cut %v are %v and %v, %d", h, c, least, greatest, err)
			}
			for _, l := range [][]int{least, greatest} {
				if same, err := history.Image(h, l); err != api.OK || cut.Check(h, l) != api.OK || !image.Same(same, im) {
					t.Fatalf("%v: %v is found for the image of %v", h, l, c)
				}
			}
		}
	}
}

func TestP183OneOfBoth(t *testing.T) {
	next := random(183)
	for _, h := range append(small(), randomHistories(4)...) {
		for _, im := range someImages(next, h, 20) {
			_, found, err := consistency.Find(h, im)
			_, newest, e := consistency.Newest(h, im)
			_, conflict, failed := consistency.Conflict(h, im)
			if found == conflict || found != newest || err != api.OK || e != api.OK || failed != api.OK {
				t.Errorf("%v in %v: got %v, %v, %v", im, h, found, newest, conflict)
			}
		}
	}
}

func TestP183Later(t *testing.T) {
	next := random(3)
	for _, h := range append(small(), randomHistories(5)...) {
		later := h
		for i := range 3 {
			if last := len(later.Writes) - 1; last >= 0 && !slices.Contains(later.Events, ack(last)) && next(2) == 0 {
				// It is before those that are issued later, and before no other one.
				later, _ = history.Ack(later, last)
			}
			volume := next(len(h.Sizes))
			start := next(h.Sizes[volume])
			w := api.Write{Volume: volume, Start: start, Data: slices.Repeat([]api.Sector{{9, 9, 9, byte(i)}}, h.Sizes[volume]-start)}
			var err api.Errno
			if later, _, err = history.Issue(later, w); err != api.OK {
				t.Fatalf("Issue: got %d", err)
			}
			for _, im := range append(someImages(next, h, 5), exposed(h, nil)) {
				want, is, err := consistency.Find(h, im)
				got, found, e := consistency.Find(later, im)
				expect(t, "Find with later writes", got, found, e, want, is, err)
				hole, is, err := consistency.Conflict(h, im)
				expectConflict(t, later, im, hole, is, err)
			}
		}
	}
}

// spare returns a copy of a list with one more element in its spare capacity.
func spare[T any](l []T, beyond T) []T {
	return append(slices.Clone(l), beyond)[:len(l)]
}

// spareHistory is a copy of a history with spare capacity everywhere.
func spareHistory(h api.History) api.History {
	l := api.History{Sizes: spare(h.Sizes, 77), Writes: spare(h.Writes, write(7, 7, "z")), Events: spare(h.Events, ack(77))}
	for i := range l.Writes {
		l.Writes[i].Data = spare(l.Writes[i].Data, api.Sector{77})
	}
	return l
}

// changed reports whether a copy of a history, with spare capacity, is not what it was.
func changed(l, h api.History) bool {
	same := slices.Equal(l.Sizes[:len(h.Sizes)+1], append(slices.Clone(h.Sizes), 77)) && slices.Equal(l.Events[:len(h.Events)+1], append(slices.Clone(h.Events), ack(77)))
	same = same && slices.EqualFunc(l.Writes[:len(h.Writes)+1], append(slices.Clone(h.Writes), write(7, 7, "z")), sameWrite)
	for _, w := range l.Writes {
		same = same && w.Data[:len(w.Data)+1][len(w.Data)] == api.Sector{77}
	}
	return !same
}

func TestValues(t *testing.T) {
	next := random(77)
	for _, h := range append(randomHistories(6), example()) {
		for _, im := range append(someImages(next, h, 10), exposed(h, nil), exposed(h, []int{0})) {
			l, arg := spareHistory(h), copyOf(im)
			for i := range arg {
				arg[i] = spare(arg[i], api.Sector{77})
			}
			least, _, _ := consistency.Find(l, arg)
			greatest, _, _ := consistency.Newest(l, arg)
			conflict, _, _ := consistency.Conflict(l, arg)
			consistency.Distinct(l)
			if changed(l, h) || !image.Same(arg, im) {
				t.Fatalf("the arguments %v and %v are modified: %v, %v", h, im, l, arg)
			}
			for _, volume := range arg {
				if volume[:len(volume)+1][len(volume)] != (api.Sector{77}) {
					t.Fatalf("the spare capacity of %v is modified", im)
				}
			}
			for _, list := range [][]int{least, greatest} {
				for i := range list[:cap(list)] {
					list[:cap(list)][i] = 99
				}
			}
			for i := range conflict.Data {
				conflict.Data[i] = api.Sector{99}
			}
			if changed(l, h) || !image.Same(arg, im) {
				t.Fatalf("a change of the results has changed the arguments %v and %v", h, im)
			}
			again, is, err := consistency.Find(h, im)
			got, found, e := consistency.Find(l, arg)
			expect(t, "Find again", got, found, e, again, is, err)
		}
	}
}
