package slot

import (
	"snaffle/api"
	"snaffle/crc"
)

// Where in a slot's bytes each part begins, and how many bytes there are.
const (
	genAt = 0
	lsnAt = 8
	sumAt = 16
	size  = 20
)

// told are a slot's bytes, whether or not it is right. The sum's lowest byte stands first, since only so a change
// within four bytes, some of them the sum's own, never makes bytes that fit.
func told(s api.Slot) [size]byte {
	var b [size]byte
	put(b[genAt:lsnAt], s.Gen)
	put(b[lsnAt:sumAt], s.Lsn)
	sum := crc.Sum(b[:sumAt])
	for i := range b[sumAt:] {
		b[sumAt+i] = byte(sum >> (8 * i))
	}
	return b
}

// read a slot from as many bytes as one has, whatever their sum is.
func read(b []byte) api.Slot {
	return api.Slot{Gen: number(b[genAt:lsnAt]), Lsn: number(b[lsnAt:sumAt])}
}

// put n into all of b, the highest byte first.
func put(b []byte, n int64) {
	for i := range b {
		b[len(b)-1-i] = byte(n >> (8 * i))
	}
}

// number is what all of b, the highest byte first, has.
func number(b []byte) int64 {
	n := int64(0)
	for _, c := range b {
		n = n<<8 | int64(c)
	}
	return n
}
