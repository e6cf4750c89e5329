package slot_test

import (
	"bytes"
	"encoding/binary"
	"encoding/hex"
	"hash/crc32"
	"math"
	"math/rand"
	"slices"
	"testing"

	"snaffle/api"
	"snaffle/slot"
)

const (
	most  = math.MaxInt64
	least = math.MinInt64
)

// of is a slot with those numbers.
func of(gen, lsn int64) api.Slot { return api.Slot{Gen: gen, Lsn: lsn} }

// raw are the bytes of a slot, right or not, as the library tells them.
func raw(s api.Slot) []byte {
	b := binary.BigEndian.AppendUint64(nil, uint64(s.Gen))
	return fitted(binary.BigEndian.AppendUint64(b, uint64(s.Lsn)))
}

// fitted are sixteen bytes, and any behind them, with the sum that fits them in its place.
func fitted(b []byte) []byte {
	return binary.LittleEndian.AppendUint32(bytes.Clone(b[:16]), crc32.ChecksumIEEE(b[:16]))
}

// rights are slots that are right, at all edges.
func rights() []api.Slot {
	var l []api.Slot
	for _, gen := range []int64{1, 2, 3, 255, 256, 257, 258, 65535, 65536, 1 << 24, api.MaxLsn - 1, api.MaxLsn} {
		for _, lsn := range []int64{0, 1, 2, 3, 255, 256, 65536, 1 << 24, 1<<24 + 1, api.MaxLsn - 1, api.MaxLsn} {
			l = append(l, of(gen, lsn))
		}
	}
	return l
}

// wrongs are slots that aren't right, by one of their numbers each, or by both.
func wrongs() []api.Slot {
	l := []api.Slot{{}, of(-1, -1), of(most, most), of(least, least)}
	for _, n := range []int64{0, -1, -2, least, least + 1, api.MaxLsn + 1, api.MaxLsn + 2, 1<<32 + 1, 1<<40 + 1, 1<<56 + 1, most} {
		l = append(l, of(n, 0), of(n, 7), of(n, api.MaxLsn))
	}
	for _, n := range []int64{-1, -2, least, least + 1, api.MaxLsn + 1, api.MaxLsn + 2, 1 << 32, 1<<40 + 1, 1<<56 + 1, most} {
		l = append(l, of(1, n), of(2, n), of(api.MaxLsn, n))
	}
	return l
}

// none holds that bytes are no slot's, for that reason.
func none(t *testing.T, what any, b []byte, want api.Errno) {
	t.Helper()
	if s, err := slot.Decode(b); err != want || s != (api.Slot{}) {
		t.Fatalf("%v: Decode = %v, %d; want no slot, %d", what, s, err, want)
	}
}

// P14.1: a slot is right by its Gen and its Lsn.
func TestRight(t *testing.T) {
	for _, s := range rights() {
		if !slot.Right(s) {
			t.Errorf("%v isn't right", s)
		}
	}
	for _, s := range wrongs() {
		if slot.Right(s) {
			t.Errorf("%v is right", s)
		}
	}
}

// P14.1: a slot's bytes by the letter: Gen, Lsn, and the sum turned about.
func TestBytes(t *testing.T) {
	got, err := slot.Encode(of(258, 1<<24+3))
	if want := "0000000000000102" + "0000000001000003"; err != api.OK || len(got) != 20 || hex.EncodeToString(got[:16]) != want {
		t.Fatalf("Encode = %x, %d; want %s and a sum", got, err, want)
	}
	sum := crc32.ChecksumIEEE(got[:16])
	for i := range 4 {
		if got[16+i] != byte(sum>>(8*i)) {
			t.Errorf("of the sum %08x the byte at %d is %02x", sum, 16+i, got[16+i])
		}
	}
}

// P14.1: Encode is what the library tells, at all edges, and Decode tells the slot again.
func TestEncodeAndDecode(t *testing.T) {
	for _, s := range rights() {
		b, err := slot.Encode(s)
		if err != api.OK || !bytes.Equal(b, raw(s)) {
			t.Fatalf("Encode(%v) = %x, %d; want %x", s, b, err, raw(s))
		}
		if got, err := slot.Decode(b); err != api.OK || got != s {
			t.Fatalf("Decode = %v, %d; want %v", got, err, s)
		}
	}
}

// P14.1: one that isn't right has no bytes, and bytes whose sum fits are none of it.
func TestWrong(t *testing.T) {
	for _, s := range wrongs() {
		if b, err := slot.Encode(s); err != api.ErrArg || len(b) != 0 {
			t.Errorf("Encode(%v) = %x, %d; want nothing, %d", s, b, err, api.ErrArg)
		}
		none(t, s, raw(s), api.ErrForm)
	}
}

// P14.1: other than 20 bytes are none of a slot, whatever they begin or end with.
func TestDecodeLength(t *testing.T) {
	none(t, "nil", nil, api.ErrForm)
	for _, b := range [][]byte{raw(of(1, 0)), raw(of(258, 3)), raw(api.Slot{}), make([]byte, 20)} {
		for i := range b {
			none(t, i, b[:i], api.ErrForm)
			none(t, -i, b[i+1:], api.ErrForm)
			none(t, 21+i, slices.Concat(b, b[:i+1]), api.ErrForm)
		}
		none(t, "behind nothing", slices.Concat([]byte{0}, b), api.ErrForm)
	}
	none(t, "many", make([]byte, 1<<20), api.ErrForm)
}

// P14.1: ErrSum where the sum doesn't fit, ahead of whether it would be right: each change of one byte anywhere, all of
// two at some places, many of four anywhere.
func TestDecodeSum(t *testing.T) {
	r := rand.New(rand.NewSource(14))
	for _, whole := range [][]byte{raw(of(258, 3)), raw(api.Slot{}), raw(of(-1, most))} {
		changed := func(at int, change ...byte) {
			t.Helper()
			b := bytes.Clone(whole)
			for i, c := range change {
				b[at+i] ^= c
			}
			none(t, at, b, api.ErrSum)
		}
		for at := range whole {
			for c := 1; c < 256; c++ {
				changed(at, byte(c))
			}
		}
		for _, at := range []int{0, 6, 7, 14, 15, 16, 18} {
			for c := 1; c < 1<<16; c++ {
				changed(at, byte(c), byte(c>>8))
			}
		}
		for at := range len(whole) - 3 {
			for range 2000 {
				c := 1 + r.Uint32()%math.MaxUint32
				changed(at, byte(c), byte(c>>8), byte(c>>16), byte(c>>24))
			}
		}
	}
	none(t, "noughts", make([]byte, 20), api.ErrSum)
	b := raw(of(258, 3))
	slices.Reverse(b[16:])
	none(t, "the sum turned about", b, api.ErrSum)
}

// P14.1: nor does it fit where some of the four bytes are the sum's own, whatever those become.
func TestChangesAcrossTheSum(t *testing.T) {
	whole := raw(of(258, 3))
	for many := 1; many <= 2; many++ {
		for c := 1; c < 1<<(8*many); c++ {
			b := bytes.Clone(whole)
			for i := range many {
				b[16-many+i] ^= byte(c >> (8 * i))
			}
			copy(b[16:20-many], fitted(b)[16:])
			none(t, c, b, api.ErrSum)
		}
	}
}

// P14.1: any twenty bytes are those of the slot that is told of them, or none's.
func TestDecodeDrawn(t *testing.T) {
	r := rand.New(rand.NewSource(141))
	for range 20000 {
		b := make([]byte, 16)
		for i := range b {
			if n := r.Intn(6); n < 2 {
				b[i] = byte(r.Intn(256))
			}
		}
		if r.Intn(2) == 0 {
			clear(b[:4])
			clear(b[8:12])
		}
		gen, lsn := binary.BigEndian.Uint64(b), binary.BigEndian.Uint64(b[8:])
		b = fitted(b)
		if gen < 1 || gen > 1000000000 || lsn > 1000000000 {
			none(t, b, b, api.ErrForm)
		} else if s, err := slot.Decode(b); err != api.OK || s != of(int64(gen), int64(lsn)) {
			t.Fatalf("Decode(%x) = %v, %d", b, s, err)
		}
	}
}

// P14.1: the file of any Gen, right or not.
func TestName(t *testing.T) {
	for gen, want := range map[int64]string{
		0: "slot.0", 1: "slot.1", 2: "slot.0", 3: "slot.1", 10: "slot.0", 11: "slot.1", api.MaxLsn: "slot.0", api.MaxLsn + 1: "slot.1",
		-1: "slot.1", -2: "slot.0", -3: "slot.1", most: "slot.1", most - 1: "slot.0", least: "slot.0", least + 1: "slot.1",
	} {
		if got := slot.Name(gen); got != want {
			t.Errorf("Name(%d) = %q; want %q", gen, got, want)
		}
	}
}

// Rules 3 and 4 of the document: what is handed in is not changed, its spare room neither; an answer is new memory, and
// the same each time.
func TestLeavesItsBytes(t *testing.T) {
	room := slices.Concat(raw(of(258, 3)), raw(of(7, 7)))
	was := bytes.Clone(room)
	s, err := slot.Decode(room[:20])
	if !bytes.Equal(room, was) {
		t.Error("the bytes became others")
	}
	clear(room)
	if err != api.OK || s != of(258, 3) {
		t.Errorf("Decode = %v, %d", s, err)
	}
	first, _ := slot.Encode(s)
	clear(first)
	if again, err := slot.Encode(s); err != api.OK || !bytes.Equal(again, was[:20]) {
		t.Errorf("Encode = %x, %d; want %x", again, err, was[:20])
	}
}
