// Package numbered packs bytes into sectors each of which carries the same number, so that sectors that were not written together can be told apart.
package numbered

import "standby/api"

const (
	// head is the number of bytes of a sector that contain its number.
	head = 4
	// Part is the number of bytes of a sector that contain data.
	Part = api.SectorSize - head
)

// Pack returns sectors with a number that contain bytes, the last one filled up with zeros.
func Pack(number uint32, data []byte) []api.Sector {
	l := make([]api.Sector, (len(data)+Part-1)/Part)
	for i := range l {
		for k := range head {
			l[i][k] = byte(number >> (8 * k))
		}
		copy(l[i][head:], data[i*Part:])
	}
	return l
}

// Number returns the number of a sector.
func Number(s api.Sector) uint32 {
	n := uint32(0)
	for k := range head {
		n |= uint32(s[k]) << (8 * k)
	}
	return n
}

// Data returns the bytes that sectors contain beside their numbers.
func Data(l []api.Sector) []byte {
	data := make([]byte, 0, len(l)*Part)
	for _, s := range l {
		data = append(data, s[head:]...)
	}
	return data
}
