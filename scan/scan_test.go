package scan_test

import (
	"bytes"
	"hash/crc32"
	"math"
	"math/rand"
	"slices"
	"testing"

	"snaffle/api"
	"snaffle/frame"
	"snaffle/scan"
)

const (
	size  = api.FrameSize
	most  = math.MaxInt64
	least = math.MinInt64
)

// at is a frame of that number and epoch; its kind and its body tell it from others.
func at(lsn, epoch int64) api.Frame {
	return api.Frame{Epoch: epoch, Lsn: lsn, Kind: int(1 + lsn%6), Body: [6]int64{lsn, -lsn, epoch, 0, least, 7}}
}

// row are frames in a row, from a number on, one of each epoch.
func row(lsn int64, epochs ...int64) []api.Frame {
	var l []api.Frame
	for i, epoch := range epochs {
		l = append(l, at(lsn+int64(i), epoch))
	}
	return l
}

// wrongs are frames that aren't right, told as of that number and epoch, but for one field each.
func wrongs(lsn, epoch int64) []api.Frame {
	var l []api.Frame
	for _, n := range []int64{0, -1, api.MaxEpoch + 1, 1<<32 + epoch, most, least} {
		f := at(lsn, epoch)
		f.Epoch = n
		l = append(l, f)
	}
	for _, n := range []int64{0, -1, api.MaxLsn + 1, 1<<32 + lsn, most, least} {
		f := at(lsn, epoch)
		f.Lsn = n
		l = append(l, f)
	}
	for _, n := range []int{0, -1, 7, 1<<32 + 1, math.MaxInt, math.MinInt} {
		f := at(lsn, epoch)
		f.Kind = n
		l = append(l, f)
	}
	return append(l, api.Frame{})
}

// with is l with f in the i-th place.
func with(l []api.Frame, i int, f api.Frame) []api.Frame {
	l = slices.Clone(l)
	l[i] = f
	return l
}

// whole are the bytes of frames, told frame by frame.
func whole(t *testing.T, l []api.Frame) []byte {
	t.Helper()
	b := []byte{}
	for _, f := range l {
		one, err := frame.Encode(f)
		if err != api.OK {
			t.Fatalf("Encode(%v): %d", f, err)
		}
		b = append(b, one...)
	}
	return b
}

// rows holds whether frames are in a row.
func rows(t *testing.T, l []api.Frame, lsn, epoch int64, want bool) {
	t.Helper()
	if got := scan.Row(l, lsn, epoch); got != want {
		t.Errorf("Row(%v, %d, %d) = %v", l, lsn, epoch, got)
	}
}

// reads holds that of these bytes those frames are read, and no more.
func reads(t *testing.T, what any, b []byte, lsn, epoch int64, want []api.Frame) {
	t.Helper()
	if got, n := scan.Scan(b, lsn, epoch); !slices.Equal(got, want) || n != size*len(want) {
		t.Fatalf("%v: Scan from %d, %d = %v, %d; want %v, %d", what, lsn, epoch, got, n, want, size*len(want))
	}
}

// P5.1: frames that are in a row, from where they are.
func TestRow(t *testing.T) {
	for _, x := range []struct {
		l          []api.Frame
		lsn, epoch int64
	}{
		{row(1, 1), 1, 1},
		{row(7, 2, 2, 5), 7, 2},
		{row(7, 2, 2, 5), 7, 1},
		{row(7, 2, 2, 5), 7, 0},
		{row(7, 2, 2, 5), 7, -1},
		{row(7, 2, 2, 5), 7, least},
		{row(1, 1, 2, 3, 4, 5, 6, 7, 8, 9, 10), 1, 1},
		{row(1, 1, api.MaxEpoch, api.MaxEpoch), 1, 1},
		{row(api.MaxLsn, api.MaxEpoch), api.MaxLsn, api.MaxEpoch},
		{row(api.MaxLsn-2, 3, 3, 4), api.MaxLsn - 2, 3},
		{row(5, make([]int64, 0)...), 5, 5},
		{row(1, slices.Repeat([]int64{4}, 1000)...), 1, 4},
	} {
		rows(t, x.l, x.lsn, x.epoch, true)
	}
}

// P5.1: the body and the kind of a frame that is right may be any.
func TestRowOfAnyBody(t *testing.T) {
	for kind := api.New; kind <= api.Event; kind++ {
		for _, n := range []int64{0, 1, -1, most, least} {
			f := api.Frame{Epoch: 1, Lsn: 3, Kind: kind, Body: [6]int64{n, n, n, n, n, n}}
			rows(t, []api.Frame{f, at(4, 1)}, 3, 1, true)
			rows(t, []api.Frame{at(2, 1), f}, 2, 1, true)
		}
	}
}

// P5.1: no frames are in a row from anything on.
func TestRowOfNone(t *testing.T) {
	for _, lsn := range []int64{0, 1, -1, api.MaxLsn, api.MaxLsn + 1, most, least} {
		for _, epoch := range []int64{0, 1, -1, api.MaxEpoch, api.MaxEpoch + 1, most, least} {
			rows(t, nil, lsn, epoch, true)
			rows(t, []api.Frame{}, lsn, epoch, true)
			rows(t, row(7, 3)[:0], lsn, epoch, true)
		}
	}
}

// P5.1: the first one's number is that number, and its epoch at least that epoch.
func TestRowBegins(t *testing.T) {
	l := row(7, 3, 3, 4)
	for _, lsn := range []int64{6, 8, 9, 0, -7, api.MaxLsn, 1<<32 + 7, most, least} {
		rows(t, l, lsn, 3, false)
		rows(t, l[:1], lsn, 3, false)
	}
	for _, epoch := range []int64{4, 5, api.MaxEpoch, 1<<32 + 3, most} {
		rows(t, l, 7, epoch, false)
		rows(t, l[:1], 7, epoch, false)
	}
	// A number that no frame has, and one that would be the number ahead of the least one.
	rows(t, row(0, 1), 0, 1, false)
	rows(t, row(least, 1), least, 1, false)
	rows(t, row(most, 1, 1), most, 1, false)
}

// P5.1: each other one's number is one more than the one ahead, and its epoch at least that of the one ahead.
func TestRowGoesOn(t *testing.T) {
	l := row(7, 3, 3, 5, 5, 9)
	rows(t, l, 7, 3, true)
	for i := range l {
		for _, by := range []int64{-2, -1, 1, 2, 1 << 20} {
			rows(t, with(l, i, at(l[i].Lsn+by, l[i].Epoch)), 7, 3, false)
		}
		rows(t, slices.Delete(slices.Clone(l), i, i+1), 7, 3, i == len(l)-1)
		rows(t, slices.Insert(slices.Clone(l), i, l[i]), 7, 3, false)
	}
	for _, x := range []struct {
		i     int
		epoch int64
		want  bool
	}{
		{0, 2, false}, {0, 3, true}, {0, 4, false},
		{1, 2, false}, {1, 4, true}, {1, 5, true}, {1, 6, false},
		{2, 2, false}, {2, 3, true}, {2, 4, true}, {2, 6, false},
		{3, 4, false}, {3, 9, true}, {3, 10, false},
		{4, 4, false}, {4, 5, true}, {4, api.MaxEpoch, true},
	} {
		rows(t, with(l, x.i, at(7+int64(x.i), x.epoch)), 7, 3, x.want)
	}
	// An epoch that falls falls, though it is still at least the one from which on.
	rows(t, row(7, 3, 5, 4), 7, 1, false)
	rows(t, row(7, 3, 5, 4), 7, 3, false)
	back := row(7, 3, 3, 3)
	slices.Reverse(back)
	rows(t, back, 9, 3, false)
	rows(t, back, 7, 3, false)
}

// P5.1: each one is right; numbers end at the greatest one.
func TestRowOfWrong(t *testing.T) {
	l := row(7, 3, 3, 5)
	for i, f := range l {
		for _, w := range wrongs(f.Lsn, f.Epoch) {
			rows(t, with(l, i, w), 7, 3, false)
			rows(t, []api.Frame{w}, w.Lsn, w.Epoch, false)
		}
	}
	rows(t, row(api.MaxLsn, 1, 1), api.MaxLsn, 1, false)
	rows(t, row(api.MaxLsn+1, 1), api.MaxLsn+1, 1, false)
	rows(t, row(1, api.MaxEpoch, api.MaxEpoch+1), 1, 1, false)
}

// P5.1: the bytes of frames stand one behind the other, in a row or not.
func TestPut(t *testing.T) {
	for _, l := range [][]api.Frame{
		nil,
		{},
		row(1, 1),
		row(7, 2, 2, 5),
		row(api.MaxLsn, api.MaxEpoch),
		{at(9, 4), at(9, 4)},
		{at(9, 4), at(3, 1), at(api.MaxLsn, 2), at(1, api.MaxEpoch), at(4, 4)},
		row(1, slices.Repeat([]int64{4}, 500)...),
	} {
		if b, err := scan.Put(l); err != api.OK || !bytes.Equal(b, whole(t, l)) {
			t.Errorf("Put(%v) = %x, %d; want %x", l, b, err, whole(t, l))
		}
	}
}

// P5.1: nothing, and ErrArg, where one isn't right, the first, the last, or one between.
func TestPutWrong(t *testing.T) {
	l := row(7, 3, 3, 5, 5)
	for i, f := range l {
		for _, w := range wrongs(f.Lsn, f.Epoch) {
			for _, l := range [][]api.Frame{with(l, i, w), with(l, i, w)[:i+1], {w}} {
				if b, err := scan.Put(l); err != api.ErrArg || len(b) != 0 {
					t.Errorf("Put(%v) = %x, %d; want nothing, %d", l, b, err, api.ErrArg)
				}
			}
		}
	}
}

// P5.2: what was put is read, however many frames it has; other bytes behind it are not.
func TestScan(t *testing.T) {
	for _, l := range [][]api.Frame{
		row(1, 1),
		row(7, 2, 2, 5),
		row(api.MaxLsn-1, 1, api.MaxEpoch),
		row(1, 1, 1, 2, 2, 3, 3, 4, 4, 5, 5, 6, 6),
		row(30, slices.Repeat([]int64{4}, 1000)...),
	} {
		lsn, epoch := l[0].Lsn, l[0].Epoch
		b, err := scan.Put(l)
		if err != api.OK {
			t.Fatal(err)
		}
		for _, epoch := range []int64{epoch, epoch - 1, 0, -1, least} {
			reads(t, len(l), b, lsn, epoch, l)
		}
		for _, more := range [][]byte{{0}, {0, 0, 0, 72}, make([]byte, 72), make([]byte, 1000), bytes.Repeat([]byte{255}, 200), b} {
			reads(t, more, slices.Concat(b, more), lsn, epoch, l)
		}
	}
}

// P5.2: bytes that begin with no frame have none.
func TestScanOfNone(t *testing.T) {
	b := whole(t, row(1, 1, 1, 1))
	for _, b := range [][]byte{nil, {}, {0}, {0, 0, 0, 72}, b[:71], b[1:], b[72+1:], make([]byte, 72), make([]byte, 7200), slices.Concat([]byte{0}, b), slices.Concat(make([]byte, 72), b)} {
		for _, lsn := range []int64{1, 0, -1, most, least} {
			reads(t, len(b), b, lsn, 1, nil)
			reads(t, len(b), b, lsn, least, nil)
		}
	}
}

// P5.2: nor has what goes on from elsewhere.
func TestScanFromElsewhere(t *testing.T) {
	b := whole(t, row(7, 3, 3, 5))
	for _, lsn := range []int64{6, 8, 9, 10, 0, -7, api.MaxLsn, 1<<32 + 7, most, least} {
		reads(t, "another number", b, lsn, 1, nil)
	}
	for _, epoch := range []int64{4, 5, 6, api.MaxEpoch, 1<<32 + 3, most} {
		reads(t, "a greater epoch", b, 7, epoch, nil)
	}
	reads(t, "the second", b[size:], 8, 3, row(8, 3, 5))
	reads(t, "the third", b[2*size:], 9, 5, row(9, 5))
	reads(t, "the third", b[2*size:], 9, 6, nil)
}

// P5.2: where whole frames aren't in a row any more it ends, and nothing behind that is read.
func TestScanEndsWithTheRow(t *testing.T) {
	l := row(7, 3, 3, 5, 5, 9)
	for i, f := range l {
		for _, other := range []api.Frame{
			at(f.Lsn-1, f.Epoch), at(f.Lsn+1, f.Epoch), at(f.Lsn+2, f.Epoch), at(1, f.Epoch), at(api.MaxLsn, f.Epoch),
			at(f.Lsn, 1), at(f.Lsn, 2),
		} {
			reads(t, other, whole(t, with(l, i, other)), 7, 3, l[:i])
		}
		reads(t, "one twice", whole(t, slices.Insert(slices.Clone(l), i+1, f)), 7, 3, l[:i+1])
		reads(t, "one left out", whole(t, slices.Delete(slices.Clone(l), i, i+1)), 7, 3, l[:i])
	}
	// An epoch that falls ends it, though it is still at least the one from which on.
	reads(t, "falls", whole(t, row(7, 3, 5, 4, 5)), 7, 1, row(7, 3, 5))
	reads(t, "rises", whole(t, with(l, 1, at(8, 6))), 7, 3, row(7, 3, 6))
}

// fitted are 72 bytes with the sum that fits those ahead of it.
func fitted(b []byte) []byte {
	sum := crc32.ChecksumIEEE(b[:68])
	return append(bytes.Clone(b[:68]), byte(sum), byte(sum>>8), byte(sum>>16), byte(sum>>24))
}

// P5.2: bytes whose sum fits, but that no frame has, end it: those of another size, epoch, number, or kind.
func TestScanEndsWithTheWrong(t *testing.T) {
	l := row(7, 3, 3, 5)
	for i := range l {
		for _, place := range []int{0, 1, 2, 3, 4, 8, 12, 16, 17, 18, 19} {
			b := whole(t, l)
			b[i*size+place] ^= 128
			copy(b[i*size:], fitted(b[i*size:(i+1)*size]))
			reads(t, place, b, 7, 3, l[:i])
		}
	}
	// Behind the greatest number there is none: the bytes of one more, of just that number, are no frame's.
	last := whole(t, row(api.MaxLsn, 1, 1)[:1])
	over := bytes.Clone(last)
	over[15]++
	reads(t, "over", slices.Concat(last, fitted(over)), api.MaxLsn, 1, row(api.MaxLsn, 1))
	reads(t, "over", fitted(over), api.MaxLsn+1, 1, nil)
}

// P5.3: what is cut off anywhere is read up to the frame that isn't whole; the chapter's example is the
// third one, cut off anywhere.
func TestCutOff(t *testing.T) {
	l := row(7, 2, 2, 5, 5)
	b := whole(t, l)
	for i := range len(b) + 1 {
		reads(t, i, b[:i], 7, 2, l[:i/size])
		reads(t, i, bytes.Clone(b[:i]), 7, 2, l[:i/size])
	}
}

// changed holds that bytes that are turned, from a place on, where change has a 1, are read up to the frame that
// isn't whole: the one in which the first turned byte is.
func changed(t *testing.T, b []byte, l []api.Frame, place int, change ...byte) {
	t.Helper()
	b = bytes.Clone(b)
	first := -1
	for i, c := range change {
		if c != 0 && first < 0 {
			first = place + i
		}
		b[place+i] ^= c
	}
	reads(t, change, b, l[0].Lsn, l[0].Epoch, l[:first/size])
}

// P5.3: so is what is changed within four bytes anywhere, within a frame or across two.
func TestChanged(t *testing.T) {
	l := row(7, 2, 2, 5)
	b := whole(t, l)
	for place := range b {
		for c := 1; c < 256; c++ {
			changed(t, b, l, place, byte(c))
		}
	}
	r := rand.New(rand.NewSource(5))
	for place := range len(b) - 3 {
		for range 300 {
			c := 1 + r.Uint32()%math.MaxUint32
			changed(t, b, l, place, byte(c), byte(c>>8), byte(c>>16), byte(c>>24))
		}
		changed(t, b, l, place, 255, 255, 255, 255)
		changed(t, b, l, place, 1, 0, 0, 1)
	}
	for _, place := range []int{size - 3, size - 2, size - 1, 2*size - 3, 2*size - 1} {
		for range 20000 {
			c := 1 + r.Uint32()%math.MaxUint32
			changed(t, b, l, place, byte(c), byte(c>>8), byte(c>>16), byte(c>>24))
		}
	}
}

// anyFrames are some frames, often in a row, here and there not.
func anyFrames(r *rand.Rand) []api.Frame {
	lsn, epoch := 1+r.Int63n(4), 1+r.Int63n(3)
	var l []api.Frame
	for range r.Intn(9) {
		f := at(lsn, epoch)
		switch r.Intn(12) {
		case 0:
			f = at(lsn+r.Int63n(5)-2, epoch)
		case 1:
			f = at(lsn, epoch+r.Int63n(5)-2)
		}
		if !frame.Right(f) {
			continue
		}
		l = append(l, f)
		lsn, epoch = f.Lsn+1, f.Epoch+r.Int63n(2)
	}
	return l
}

// inRow tells by the letter whether frames that are right are in a row.
func inRow(l []api.Frame, lsn, epoch int64) bool {
	for i, f := range l {
		if f.Lsn != lsn+int64(i) || f.Epoch < epoch || i > 0 && f.Epoch < l[i-1].Epoch {
			return false
		}
	}
	return true
}

// P5.1, P5.2: whatever frames follow one another, as many are read as are in a row, and one more isn't.
func TestOneBehindTheOther(t *testing.T) {
	r := rand.New(rand.NewSource(55))
	for range 20000 {
		l, lsn, epoch := anyFrames(r), 1+r.Int63n(4), r.Int63n(4)
		b, err := scan.Put(l)
		if err != api.OK || len(b) != size*len(l) {
			t.Fatalf("Put(%v): %d bytes, %d", l, len(b), err)
		}
		many := 0
		for i := range len(l) + 1 {
			want := inRow(l[:i], lsn, epoch)
			rows(t, l[:i], lsn, epoch, want)
			if want {
				many = i
			}
		}
		b = append(b, make([]byte, r.Intn(100))...)
		reads(t, l, b, lsn, epoch, l[:many])
	}
}

// Rules 3 and 4 of the document: what is handed in is not changed, its spare room neither, nor read beyond its
// end; an answer is new memory, and the same each time.
func TestLeavesWhatIsHandedIn(t *testing.T) {
	l := row(7, 2, 2, 5, 5)
	room := slices.Clone(l)
	scan.Row(room[:2], 7, 2)
	b, _ := scan.Put(room[:2])
	if !slices.Equal(room, l) {
		t.Error("the frames became others")
	}
	if len(b) != 2*size {
		t.Errorf("two frames have %d bytes", len(b))
	}
	clear(b[:cap(b)])
	if again, err := scan.Put(room[:2]); err != api.OK || !bytes.Equal(again, whole(t, l[:2])) {
		t.Errorf("Put = %x, %d", again, err)
	}
	bytesRoom := whole(t, l)
	was := bytes.Clone(bytesRoom)
	got, n := scan.Scan(bytesRoom[:2*size], 7, 2)
	if !bytes.Equal(bytesRoom, was) {
		t.Error("the bytes became others")
	}
	clear(bytesRoom)
	if !slices.Equal(got, l[:2]) || n != 2*size {
		t.Errorf("Scan = %v, %d; want %v", got, n, l[:2])
	}
	clear(got[:cap(got)])
	reads(t, "again", was[:2*size], 7, 2, l[:2])
}
