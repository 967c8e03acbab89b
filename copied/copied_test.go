package copied_test

import (
	"reflect"
	"slices"
	"testing"

	"standby/api"
	"standby/copied"
)

// cycles are two cycles, with an element in the spare capacity of their lists.
func cycles() []api.Cycle {
	sectors := func(letters ...byte) []api.Sector {
		var l []api.Sector
		for _, c := range letters {
			l = append(l, api.Sector{c})
		}
		return l[:len(l)-1]
	}
	first := []api.Write{{Volume: 1, Start: 2, Data: sectors('a', 'b', 'x')}, {Volume: 2, Start: 3, Data: sectors('c', 'x')}, {Volume: 9}}
	second := []api.Write{{Data: sectors('d', 'x')}, {Volume: 9}}
	l := []api.Cycle{{Base: 4, Number: 5, Time: 6, Positions: []int{7, 8, 99}[:2], Writes: first[:2]}, {Positions: []int{9, 99}[:1], Writes: second[:1]}, {Base: 9}}
	return l[:2]
}

// spoil changes the contents of cycles.
func spoil(l []api.Cycle) {
	for i, c := range l {
		spoilWrites(c.Writes)
		for k := range c.Positions {
			c.Positions[k]++
		}
		l[i].Base++
	}
}

func spoilWrites(l []api.Write) {
	for i, w := range l {
		for k := range w.Data {
			w.Data[k][7]++
		}
		l[i].Start++
	}
}

func TestCopies(t *testing.T) {
	from, want := cycles(), cycles()
	write, writes, one, all := copied.Write(from[0].Writes[1]), copied.Writes(from[0].Writes), copied.Cycle(from[0]), copied.Cycles(from)
	spoil(from)
	if !reflect.DeepEqual(write, want[0].Writes[1]) || !reflect.DeepEqual(writes, want[0].Writes) || !reflect.DeepEqual(one, want[0]) || !reflect.DeepEqual(all, want) {
		t.Errorf("got %v, %v, %v, %v, want those of %v", write, writes, one, all, want)
	}
	from = cycles()
	write, writes, one, all = copied.Write(from[0].Writes[1]), copied.Writes(from[0].Writes), copied.Cycle(from[0]), copied.Cycles(from)
	spoilWrites([]api.Write{write})
	spoilWrites(writes)
	spoil([]api.Cycle{one})
	spoil(all)
	if !reflect.DeepEqual(from, want) {
		t.Errorf("the copies have changed %v to %v", want, from)
	}
}

func TestCopiesOfNothing(t *testing.T) {
	if w := copied.Write(api.Write{}); len(w.Data) > 0 {
		t.Errorf("Write: got %v", w)
	}
	if c := copied.Cycle(api.Cycle{}); len(c.Positions) > 0 || len(c.Writes) > 0 {
		t.Errorf("Cycle: got %v", c)
	}
	if len(copied.Writes(nil)) > 0 || len(copied.Cycles(nil)) > 0 {
		t.Error("got copies of nothing")
	}
}

func TestAll(t *testing.T) {
	l := [][]byte{{1, 2}, nil, {3}, {4}}
	got := copied.All(l[:3], slices.Clone)
	if !reflect.DeepEqual(got, [][]byte{{1, 2}, nil, {3}}) || copied.All([][]byte(nil), slices.Clone) != nil {
		t.Errorf("got %v", got)
	}
	l[0][1], l[2] = 9, nil
	if got[0][1] != 2 || got[2] == nil {
		t.Errorf("a copy after a change of the list: %v", got)
	}
}
