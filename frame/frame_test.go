package frame_test

import (
	"bytes"
	"encoding/binary"
	"encoding/hex"
	"hash/crc32"
	"math"
	"math/rand"
	"testing"

	"snaffle/api"
	"snaffle/frame"
)

// fields are a frame's, each as wide as in its bytes, so that they may be such as no frame has.
type fields struct {
	Size, Epoch uint32
	Lsn         uint64
	Kind        uint32
	Body        [6]int64
}

// some are a frame's fields, right ones.
func some() fields {
	return fields{Size: 72, Epoch: 3, Lsn: 258, Kind: 6, Body: [6]int64{1, -1, 1 << 62, 0, math.MinInt64, 7}}
}

// bytes of the fields, with a sum that fits, told by the library.
func (f fields) bytes() []byte {
	var b bytes.Buffer
	if err := binary.Write(&b, binary.BigEndian, f); err != nil {
		panic(err)
	}
	return fitted(append(b.Bytes(), 0, 0, 0, 0))
}

// frame of the fields.
func (f fields) frame() api.Frame {
	return api.Frame{Epoch: int64(f.Epoch), Lsn: int64(f.Lsn), Kind: int(f.Kind), Body: f.Body}
}

// fitted are 72 bytes with the sum that fits those ahead of it.
func fitted(b []byte) []byte {
	return binary.LittleEndian.AppendUint32(bytes.Clone(b[:68]), crc32.ChecksumIEEE(b[:68]))
}

// rights are frames that are right, with numbers at all edges.
func rights() []api.Frame {
	bodies := [][6]int64{
		{},
		{1, 2, 3, 4, 5, 6},
		{-1, -2, -3, -4, -5, -6},
		{math.MaxInt64, math.MinInt64, 1 << 32, -1 << 32, 1<<31 - 1, -1 << 31},
		{0, 0, 0, 0, 0, 1},
		{1, 0, 0, 0, 0, 0},
		{0x0102030405060708, -0x0102030405060708, 255, 256, 65535, 65536},
	}
	var l []api.Frame
	for _, epoch := range []int64{1, 2, 255, 256, 65536, api.MaxEpoch - 1, api.MaxEpoch} {
		for _, lsn := range []int64{1, 2, 255, 256, 65536, 1 << 24, api.MaxLsn - 1, api.MaxLsn} {
			for kind := api.New; kind <= api.Event; kind++ {
				for _, body := range bodies {
					l = append(l, api.Frame{Epoch: epoch, Lsn: lsn, Kind: kind, Body: body})
				}
			}
		}
	}
	return l
}

// wrongs are frames that aren't right, by one of their fields each.
func wrongs() []api.Frame {
	var l []api.Frame
	for _, n := range []int64{0, -1, -72, api.MaxEpoch + 1, 1<<32 + 1, math.MaxInt64, math.MinInt64, math.MinInt64 + 1} {
		l = append(l, api.Frame{Epoch: n, Lsn: 1, Kind: api.New})
	}
	for _, n := range []int64{0, -1, -72, api.MaxLsn + 1, 1<<32 + 1, math.MaxInt64, math.MinInt64, math.MinInt64 + 1} {
		l = append(l, api.Frame{Epoch: 1, Lsn: n, Kind: api.New})
	}
	for _, n := range []int{0, -1, 7, 8, 257, 1<<32 + 1, math.MaxInt, math.MinInt, math.MinInt + 1} {
		l = append(l, api.Frame{Epoch: 1, Lsn: 1, Kind: n})
	}
	return append(l, api.Frame{}, api.Frame{Body: [6]int64{1, 2, 3, 4, 5, 6}})
}

// none holds that bytes are no frame's, for that reason.
func none(t *testing.T, what any, b []byte, want api.Errno) {
	t.Helper()
	if f, err := frame.Decode(b); err != want || f != (api.Frame{}) {
		t.Fatalf("%v: Decode = %v, %d; want no frame, %d", what, f, err, want)
	}
}

// P4.1: a frame is right by its Epoch, Lsn and Kind, whatever its Body is.
func TestRight(t *testing.T) {
	for _, f := range rights() {
		if !frame.Right(f) {
			t.Errorf("%v isn't right", f)
		}
	}
	for _, f := range wrongs() {
		if frame.Right(f) {
			t.Errorf("%v is right", f)
		}
	}
}

// P4.1: a frame's bytes by the letter: the size, the epoch, the number, the kind, six numbers, the sum.
func TestBytes(t *testing.T) {
	want := "00000048" + "00000003" + "0000000000000102" + "00000006" +
		"0000000000000001" + "ffffffffffffffff" + "4000000000000000" +
		"0000000000000000" + "8000000000000000" + "0000000000000007"
	got, err := frame.Encode(some().frame())
	if err != api.OK || len(got) != 72 || hex.EncodeToString(got[:68]) != want {
		t.Fatalf("Encode = %x, %d; want %s and a sum", got, err, want)
	}
	sum := crc32.ChecksumIEEE(got[:68])
	for i := range 4 {
		if got[68+i] != byte(sum>>(8*i)) {
			t.Errorf("of the sum %08x the byte at %d is %02x", sum, 68+i, got[68+i])
		}
	}
}

// P4.1: Encode is what the library tells, at all edges.
func TestEncode(t *testing.T) {
	for _, f := range rights() {
		want := fields{Size: 72, Epoch: uint32(f.Epoch), Lsn: uint64(f.Lsn), Kind: uint32(f.Kind), Body: f.Body}.bytes()
		if got, err := frame.Encode(f); err != api.OK || !bytes.Equal(got, want) {
			t.Fatalf("Encode(%v) = %x, %d; want %x", f, got, err, want)
		}
	}
}

// P4.1: one that isn't right has no bytes.
func TestEncodeWrong(t *testing.T) {
	for _, f := range wrongs() {
		if b, err := frame.Encode(f); err != api.ErrArg || len(b) != 0 {
			t.Errorf("Encode(%v) = %x, %d; want nothing, %d", f, b, err, api.ErrArg)
		}
	}
}

// P4.2, P4.3: a frame is read from its bytes as it was.
func TestDecode(t *testing.T) {
	for _, f := range rights() {
		b, _ := frame.Encode(f)
		if got, err := frame.Decode(b); err != api.OK || got != f {
			t.Fatalf("Decode = %v, %d; want %v", got, err, f)
		}
	}
}

// P4.2: other than 72 bytes are none of a frame, whatever they begin with.
func TestDecodeLength(t *testing.T) {
	b := some().bytes()
	none(t, "nil", nil, api.ErrForm)
	for i := range b {
		none(t, i, b[:i], api.ErrForm)
		none(t, -i, b[i+1:], api.ErrForm)
		none(t, 73+i, append(bytes.Clone(b), b[:i+1]...), api.ErrForm)
	}
	none(t, "behind nothing", append([]byte{0}, b...), api.ErrForm)
	none(t, "many", make([]byte, 1<<20), api.ErrForm)
}

// P4.2: ErrForm where the first four bytes aren't 72, whether or not the sum fits.
func TestDecodeSize(t *testing.T) {
	for _, size := range []uint32{0, 1, 71, 73, 68, 76, 72 << 8, 72 << 16, 72 << 24, 72 + 256, 72 + 1<<31, math.MaxUint32} {
		f := some()
		f.Size = size
		b := f.bytes()
		none(t, size, b, api.ErrForm)
		b[71] ^= 1
		none(t, size, b, api.ErrForm)
	}
}

// P4.2: ErrSum where the sum doesn't fit, ahead of whether it would be right.
func TestDecodeSum(t *testing.T) {
	wrong := some()
	wrong.Kind = 0
	for _, whole := range [][]byte{some().bytes(), wrong.bytes()} {
		for i := 4; i < len(whole); i++ {
			for bit := range 8 {
				b := bytes.Clone(whole)
				b[i] ^= 1 << bit
				none(t, i, b, api.ErrSum)
			}
		}
		b := bytes.Clone(whole)
		b[68], b[69], b[70], b[71] = b[71], b[70], b[69], b[68]
		none(t, "the sum turned about", b, api.ErrSum)
	}
	none(t, "noughts behind 72", append([]byte{0, 0, 0, 72}, make([]byte, 68)...), api.ErrSum)
}

// P4.2: ErrForm where the sum fits what wouldn't be right; no byte of a field is passed over.
func TestDecodeWrong(t *testing.T) {
	for _, n := range []uint32{0, api.MaxEpoch + 1, 1<<24 + 1, 1 << 31, 1<<31 + 1, math.MaxUint32} {
		f := some()
		f.Epoch = n
		none(t, f, f.bytes(), api.ErrForm)
	}
	for _, n := range []uint64{0, api.MaxLsn + 1, 1<<32 + 1, 1<<40 + 1, 1<<56 + 1, 1 << 63, 1<<63 + 1, math.MaxUint64} {
		f := some()
		f.Lsn = n
		none(t, f, f.bytes(), api.ErrForm)
	}
	for _, n := range []uint32{0, 7, 8, 1<<8 + 1, 1<<16 + 1, 1<<24 + 1, 1 << 31, 1<<31 + 1, math.MaxUint32} {
		f := some()
		f.Kind = n
		none(t, f, f.bytes(), api.ErrForm)
	}
}

// changed holds that bytes are no frame's any more when those from at on are turned where change has a 1.
func changed(t *testing.T, whole []byte, at int, change ...byte) {
	t.Helper()
	b := bytes.Clone(whole)
	for i, c := range change {
		b[at+i] ^= c
	}
	if f, err := frame.Decode(b); err == api.OK || f != (api.Frame{}) {
		t.Fatalf("changed by %x at %d: Decode = %v, %d", change, at, f, err)
	}
}

// P4.3: bytes that are changed within four that follow one another are none of a frame: each change of
// one byte anywhere, each one of two at some places, and many of four anywhere.
func TestFewChanges(t *testing.T) {
	whole := some().bytes()
	for at := range whole {
		for c := 1; c < 256; c++ {
			changed(t, whole, at, byte(c))
		}
	}
	for _, at := range []int{0, 3, 18, 40, 66, 67, 68, 70} {
		for c := 1; c < 1<<16; c++ {
			changed(t, whole, at, byte(c), byte(c>>8))
		}
	}
	r := rand.New(rand.NewSource(4))
	for at := range len(whole) - 3 {
		for range 3000 {
			c := 1 + r.Uint32()%math.MaxUint32
			changed(t, whole, at, byte(c), byte(c>>8), byte(c>>16), byte(c>>24))
		}
	}
}

// P4.3: nor do they fit where some of the four are the sum's own. Whatever the last one, two or three bytes
// ahead of the sum become, the bytes of the sum that are within the four may be chosen as one likes,
// so the sum must become another in those behind them.
func TestChangesAcrossTheSum(t *testing.T) {
	whole := some().bytes()
	for many := 1; many <= 2; many++ {
		for c := 1; c < 1<<(8*many); c++ {
			b := bytes.Clone(whole)
			for i := range many {
				b[68-many+i] ^= byte(c >> (8 * i))
			}
			copy(b[68:72-many], fitted(b)[68:])
			none(t, c, b, api.ErrSum)
		}
	}
	// Of three there are too many to decode each.
	ahead, sum := crc32.ChecksumIEEE(whole[:65]), crc32.ChecksumIEEE(whole[:68])
	for c := 1; c < 1<<24; c++ {
		three := [3]byte{whole[65] ^ byte(c), whole[66] ^ byte(c>>8), whole[67] ^ byte(c>>16)}
		if now := crc32.Update(ahead, crc32.IEEETable, three[:]); now>>8 == sum>>8 {
			changed(t, whole, 65, byte(c), byte(c>>8), byte(c>>16), byte(now^sum))
		}
	}
}

// Rules 3 and 4 of the document: what is handed in is not changed, its spare room neither; an answer is
// new memory, and the same each time.
func TestLeavesItsBytes(t *testing.T) {
	room := append(some().bytes(), some().bytes()...)
	was := bytes.Clone(room)
	f, err := frame.Decode(room[:72])
	if !bytes.Equal(room, was) {
		t.Error("the bytes became others")
	}
	clear(room)
	if want := some().frame(); err != api.OK || f != want {
		t.Errorf("Decode = %v, %d; want %v", f, err, want)
	}
	first, _ := frame.Encode(f)
	clear(first)
	if again, err := frame.Encode(f); err != api.OK || !bytes.Equal(again, was[:72]) {
		t.Errorf("Encode = %x, %d; want %x", again, err, was[:72])
	}
}
