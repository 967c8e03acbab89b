package numbered_test

import (
	"math"
	"slices"
	"testing"

	"standby/api"
	"standby/numbered"
)

// text is some bytes without zeros.
func text(length int) []byte {
	var l []byte
	for i := range length {
		l = append(l, byte(1+i*7%255))
	}
	return l
}

func TestPack(t *testing.T) {
	if got := numbered.Pack(0x04030201, []byte{5, 6, 7, 8, 9}); !slices.Equal(got, []api.Sector{{1, 2, 3, 4, 5, 6, 7, 8}, {1, 2, 3, 4, 9}}) {
		t.Errorf("got %v", got)
	}
	if got := numbered.Pack(7, nil); len(got) > 0 {
		t.Errorf("without data: got %v", got)
	}
}

func TestWhatIsPacked(t *testing.T) {
	for _, number := range []uint32{0, 1, 255, 256, 257, 1 << 16, 1 << 24, 1<<31 - 1, 1 << 31, math.MaxUint32} {
		for length := range 40 {
			data := text(length)
			l := numbered.Pack(number, data)
			if len(l) != (length+3)/4 {
				t.Fatalf("%d bytes are in %d sectors", length, len(l))
			}
			for _, s := range l {
				if got := numbered.Number(s); got != number {
					t.Errorf("the number %d is read as %d", number, got)
				}
			}
			got := numbered.Data(l)
			if len(got) != 4*len(l) || !slices.Equal(got[:length], data) || slices.Max(append(got[length:], 0)) > 0 {
				t.Errorf("the data %v are read as %v", data, got)
			}
		}
	}
}

func TestNothingIsShared(t *testing.T) {
	data := text(9)
	l := numbered.Pack(3, data[:6])
	got := numbered.Data(l)
	clear(l)
	if !slices.Equal(data, text(9)) || !slices.Equal(got[:6], text(6)) {
		t.Errorf("the data are %v, what was read of them is %v", data, got)
	}
}
