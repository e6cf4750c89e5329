package row_test

import (
	"bytes"
	"encoding/binary"
	"hash/crc32"
	"math"
	"math/rand"
	"reflect"
	"testing"

	"snaffle/api"
	"snaffle/book"
	"snaffle/row"
)

// P13.4: a state is read from its bytes as it was.
func TestAsItWas(t *testing.T) {
	for _, s := range states(t) {
		got, err := reads(t, encoded(t, s))
		if err != api.OK || !row.Same(got, s) || !same(got, s) || !book.Right(got) {
			t.Fatalf("Decode = %+v, %d; want %+v", got, err, s)
		}
		if again := encoded(t, got); !bytes.Equal(again, encoded(t, s)) {
			t.Fatalf("the bytes of what was read are %x", again)
		}
	}
}

// P13.4: unlike states have unlike bytes: of many, and where one part alone is another.
func TestUnlike(t *testing.T) {
	seen := map[string]api.State{}
	for _, s := range states(t) {
		b := encoded(t, s)
		if was, ok := seen[string(b)]; ok && !same(was, s) {
			t.Fatalf("%+v and %+v have the same bytes", was, s)
		}
		seen[string(b)] = s
	}
	count := 0
	for _, s := range []api.State{busy(t), outermost(t), begun(t, 2, 3)} {
		b, other := encoded(t, s), copied(s)
		others(reflect.ValueOf(&other).Elem(), "state", func(name string) {
			if book.Right(other) {
				count++
				if bytes.Equal(b, encoded(t, other)) {
					t.Errorf("%s: another one has the same bytes", name)
				}
			}
		})
	}
	if count < 100 {
		t.Errorf("%d others are right", count)
	}
}

// changed holds that bytes are no state's any more when those from at on are turned where change has a 1.
func changed(t *testing.T, whole []byte, at int, change ...byte) {
	t.Helper()
	b := bytes.Clone(whole)
	for i, c := range change {
		b[at+i] ^= c
	}
	if s, err := row.Decode(b); err == api.OK || !same(s, api.State{}) {
		t.Fatalf("changed by %x at %d: Decode = %+v, %d", change, at, s, err)
	}
}

// P13.4: bytes that are changed within four that follow one another are none of a state: each change of one byte
// anywhere, each one of two at some places, and many of four anywhere.
func TestFewChanges(t *testing.T) {
	whole := encoded(t, does(t, begun(t, 1, 1), buys(3, 5, 7)))
	n := len(whole)
	for at := range n {
		for c := 1; c < 256; c++ {
			changed(t, whole, at, byte(c))
		}
	}
	for _, at := range []int{0, 4, 6, 30, 43, n - 6, n - 5, n - 4, n - 2} {
		for c := 1; c < 1<<16; c++ {
			changed(t, whole, at, byte(c), byte(c>>8))
		}
	}
	r := rand.New(rand.NewSource(4))
	for _, b := range [][]byte{whole, encoded(t, busy(t)), encoded(t, outermost(t))} {
		for at := range len(b) - 3 {
			for range 200 {
				c := 1 + r.Uint32()%math.MaxUint32
				changed(t, b, at, byte(c), byte(c>>8), byte(c>>16), byte(c>>24))
			}
		}
	}
}

// P13.4: the four bytes that tell how many of all there are, among them those by which as many bytes would be there.
func TestCountsChanged(t *testing.T) {
	for _, whole := range [][]byte{encoded(t, begun(t, 7, 2)), encoded(t, begun(t, 3, 5)), encoded(t, busy(t))} {
		for accounts := range 10 {
			for symbols := range 10 {
				for orders := range 70 {
					for _, kill := range []byte{0, 1, 2, 255} {
						four := []byte{byte(accounts), byte(symbols), kill, byte(orders)}
						if bytes.Equal(four, whole[4:8]) {
							continue
						}
						for i := range four {
							four[i] ^= whole[4+i]
						}
						changed(t, whole, 4, four...)
					}
				}
			}
		}
	}
}

// P13.4: nor do they fit where some of the four are the sum's own. Whatever the last one, two or three bytes ahead of
// the sum become, the bytes of the sum that are within the four may be chosen as one likes, so the sum must become
// another in those behind them.
func TestChangesAcrossTheSum(t *testing.T) {
	whole := encoded(t, begun(t, 1, 1))
	at := len(whole) - 4
	for many := 1; many <= 2; many++ {
		for c := 1; c < 1<<(8*many); c++ {
			b := bytes.Clone(whole)
			for i := range many {
				b[at-many+i] ^= byte(c >> (8 * i))
			}
			copy(b[at:at+4-many], fitted(b)[at:])
			none(t, c, b, api.ErrSum)
		}
	}
	// Of three there are too many to decode each.
	ahead, sum := crc32.ChecksumIEEE(whole[:at-3]), binary.LittleEndian.Uint32(whole[at:])
	for c := 1; c < 1<<24; c++ {
		three := [3]byte{whole[at-3] ^ byte(c), whole[at-2] ^ byte(c>>8), whole[at-1] ^ byte(c>>16)}
		if now := crc32.Update(ahead, crc32.IEEETable, three[:]); now>>8 == sum>>8 {
			changed(t, whole, at-3, byte(c), byte(c>>8), byte(c>>16), byte(now^sum))
		}
	}
}
