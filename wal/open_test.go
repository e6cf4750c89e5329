package wal_test

import (
	"fmt"
	"math/rand"
	"slices"
	"strings"
	"testing"

	"snaffle/api"
	"snaffle/disk"
	"snaffle/frame"
	"snaffle/wal"
)

// opens is Open, held to change nothing that was handed in, and to answer alike each time; the frames are new memory.
func opens(t *testing.T, d api.Disk, base int64) (api.Wal, api.Disk, []api.Frame, api.Errno) {
	t.Helper()
	g := give(api.Wal{}, d)
	w, is, l, err := wal.Open(g.d, base)
	g.stay(t)
	frames := slices.Clone(l)
	clear(l[:cap(l)])
	g.stay(t)
	v, at, m, again := wal.Open(g.d, base)
	if !same(v, w) || shown(at) != shown(is) || !slices.Equal(m, frames) || again != err {
		t.Fatalf("Open(%s, %d) = %+v, %s, %v, %d; again %+v, %s, %v, %d", shown(d), base, w, shown(is), frames, err, v, shown(at), m, again)
	}
	return w, is, frames, err
}

// step of the disk by which it is mended: a segment is cut to so many bytes, or removed.
type step struct {
	lsn  int64
	left int
}

const gone = -1

// do a step.
func (s step) do(d api.Disk) (api.Disk, api.Errno) {
	name := fmt.Sprintf("log.%010d", s.lsn)
	if s.left == gone {
		return disk.Remove(d, name)
	}
	return disk.Cut(d, name, s.left)
}

// removes are the steps that remove segments.
func removes(lsns ...int64) []step {
	var l []step
	for _, lsn := range lsns {
		l = append(l, step{lsn, gone})
	}
	return l
}

// told is what Open should answer where nothing goes wrong: a journal, frames, and the steps of the disk.
type told struct {
	w     api.Wal
	l     []api.Frame
	steps []step
}

// holds that Open of a disk is as it is told, with each fuse.
func (x told) holds(t *testing.T, what any, d api.Disk, base int64) {
	t.Helper()
	for _, fuse := range []int{api.None, 0, 1, 2, 3, 4, 5, 6, 7, 77} {
		want, wantErr := fused(d, fuse), api.OK
		for _, s := range x.steps {
			if want, wantErr = s.do(want); wantErr != api.OK {
				break
			}
		}
		wantW, wantL := x.w, x.l
		if wantErr != api.OK {
			wantW, wantL = api.Wal{}, nil
		}
		w, is, l, err := opens(t, fused(d, fuse), base)
		wanted(t, fmt.Sprint(what, ", base ", base, ", fuse ", fuse), w, is, err, wantW, want, wantErr)
		if !slices.Equal(l, wantL) {
			t.Fatalf("%v, base %d, fuse %d: frames %v; want %v", what, base, fuse, l, wantL)
		}
		if err == api.OK && (!wal.Right(w) || !disk.Right(is)) {
			t.Fatalf("%v, base %d: isn't right: %+v, %s", what, base, w, shown(is))
		}
	}
}

// refuses holds that Open has that error, and does nothing.
func refuses(t *testing.T, what any, d api.Disk, base int64, want api.Errno) {
	t.Helper()
	for _, fuse := range []int{api.None, 0, 1, 5} {
		d := fused(d, fuse)
		w, is, l, err := opens(t, d, base)
		wanted(t, fmt.Sprint(what, ", base ", base), w, is, err, api.Wal{}, d, want)
		if len(l) != 0 {
			t.Fatalf("%v, base %d: frames %v", what, base, l)
		}
	}
}

// at first, or where nothing is left: the journal that begins behind a number.
func begins(base int64) api.Wal { return api.Wal{Epoch: 1, Next: base + 1, Sure: base} }

// P12.5: where there are no segments, a journal begins behind base.
func TestOpenOfNone(t *testing.T) {
	for _, base := range []int64{0, 1, 5, 1 << 20, api.MaxLsn - 2, api.MaxLsn - 1} {
		told{w: begins(base)}.holds(t, "none", disc(), base)
		told{w: begins(base)}.holds(t, "others", disc(others()...), base)
	}
}

// P12.5: what is whole goes on where it is, and costs nothing; the frames are those above base.
func TestOpenOfWhole(t *testing.T) {
	for what, x := range map[string]struct {
		l      [][]api.Frame
		epoch  int64
		before int64 // the number ahead of the first one
	}{
		"one":                   {[][]api.Frame{row(1, 1)}, 2, 0},
		"three":                 {[][]api.Frame{row(1, 1, 1, 1)}, 2, 0},
		"eight":                 {[][]api.Frame{alike(1, 1, 8)}, 2, 0},
		"nine":                  {[][]api.Frame{alike(1, 1, 8), alike(9, 1, 1)}, 2, 0},
		"many":                  {[][]api.Frame{alike(1, 1, 8), alike(9, 1, 8), alike(17, 1, 8), alike(25, 1, 4)}, 2, 0},
		"of many epochs":        {[][]api.Frame{row(1, 1, 1, 3), row(4, 3), row(5, 4, 9, 9), row(8, 77, 77)}, 78, 0},
		"not from 1":            {[][]api.Frame{row(8, 3, 3), row(10, 3), row(11, 5)}, 6, 7},
		"up to the last number": {[][]api.Frame{row(api.MaxLsn-2, 3, 3), row(api.MaxLsn, 4)}, 5, api.MaxLsn - 3},
		"of the last epoch":     {[][]api.Frame{row(1, 1), row(2, api.MaxEpoch-1)}, api.MaxEpoch, 0},
	} {
		var files []api.File
		for _, l := range x.l {
			files = append(files, of(l))
		}
		all := slices.Concat(x.l...)
		last, current := all[len(all)-1].Lsn, x.l[len(x.l)-1]
		w := api.Wal{Epoch: x.epoch, Next: last + 1, Sure: last, Seg: current[0].Lsn, Count: len(current)}
		for base := x.before; base <= min(last, api.MaxLsn-1); base++ {
			for _, d := range []api.Disk{disc(files...), disc(append(others(), files...)...)} {
				told{w: w, l: all[base-x.before:]}.holds(t, what, d, base)
			}
		}
	}
}

// P12.5: where the last record is below base, all segments go, the last one first.
func TestOpenBelowBase(t *testing.T) {
	d := disc(append(others(), of(row(4, 5, 5, 5)), of(row(7, 5)), of(row(8, 6, 6)))...)
	for _, base := range []int64{10, 11, 77, api.MaxLsn - 1} {
		told{w: begins(base), steps: removes(8, 7, 4)}.holds(t, "below", d, base)
	}
	told{w: api.Wal{Epoch: 7, Next: 10, Sure: 9, Seg: 8, Count: 2}}.holds(t, "not below", d, 9)
	d = disc(of(row(api.MaxLsn-2, api.MaxEpoch)))
	told{w: begins(api.MaxLsn - 1), steps: removes(api.MaxLsn - 2)}.holds(t, "the last ones", d, api.MaxLsn-1)
}

// P12.5: it ends where other bytes stand behind the frames that count: they are cut off, and what is behind goes.
func TestOpenCuts(t *testing.T) {
	l := alike(1, 2, 11)
	w := api.Wal{Epoch: 3, Next: 4, Sure: 3, Seg: 1, Count: 3}
	for what, more := range map[string][]byte{
		"a byte":          {0},
		"a piece":         raw(l[3])[:size-1],
		"zeros":           make([]byte, 2*size),
		"changed":         append(append(raw(l[3])[:20], 99), raw(l[3])[21:]...),
		"changed, more":   append(append(raw(l[3])[:70], 99, 99), raw(l[4:7]...)...),
		"one twice":       raw(l[2]),
		"one left out":    raw(l[4]),
		"a falling epoch": raw(at(4, 1)),
		"the first again": raw(l[0], l[1], l[2], l[3]),
	} {
		b := append(raw(l[:3]...), more...)
		cuts := step{1, 3 * size}
		d := disc(segment(1, b))
		told{w, l[:3], []step{cuts}}.holds(t, what, d, 0)
		told{w, l[2:3], []step{cuts}}.holds(t, what, d, 2)
		told{w, nil, []step{cuts}}.holds(t, what, d, 3)
		told{begins(4), nil, append([]step{cuts}, removes(1)...)}.holds(t, what, d, 4)

		d = disc(append(others(), segment(1, b), of(l[3:5]), of(l[5:6]), segment(11, nil))...)
		steps := append(removes(11, 6, 4), cuts)
		told{w, l[:3], steps}.holds(t, what, d, 0)
		told{w, l[1:3], steps}.holds(t, what, d, 1)
		told{begins(9), nil, append(steps, removes(1)...)}.holds(t, what, d, 9)

		// The same within the second segment, the first one being whole.
		d = disc(of(alike(1, 1, 8)), segment(9, append(raw(row(9, 1, 2)...), more...)), of(row(11, 2)))
		told{api.Wal{Epoch: 3, Next: 11, Sure: 10, Seg: 9, Count: 2}, row(8, 1, 1, 2), append(removes(11), step{9, 2 * size})}.holds(t, what, d, 7)
	}
}

// P12.5: of a segment's frames at most 8 count, those behind them are other bytes.
func TestOpenOfMoreThanEight(t *testing.T) {
	l := alike(1, 2, 20)
	w := api.Wal{Epoch: 3, Next: 9, Sure: 8, Seg: 1, Count: 8}
	told{w, l[:8], []step{{1, 8 * size}}}.holds(t, "nine", disc(of(l[:9])), 0)
	told{w, l[:8], []step{{1, 8 * size}}}.holds(t, "twenty", disc(of(l)), 0)
	told{w, l[:8], append(removes(9), step{1, 8 * size})}.holds(t, "nine, and behind the eighth", disc(of(l[:9]), of(l[8:11])), 0)
	told{w, l[:8], append(removes(10), step{1, 8 * size})}.holds(t, "nine, and behind them", disc(of(l[:9]), of(l[9:11])), 0)
	told{w, l[:8], []step{{1, 8 * size}}}.holds(t, "eight and a byte", disc(segment(1, append(raw(l[:8]...), 0))), 0)
	told{w, l[:8], nil}.holds(t, "eight", disc(of(l[:8])), 0)
	w = api.Wal{Epoch: 3, Next: 17, Sure: 16, Seg: 9, Count: 8}
	told{w, l[:16], []step{{9, 8 * size}}}.holds(t, "the second one", disc(of(l[:8]), of(l[8:])), 0)
}

// P12.5: it ends with a segment that has no frames that count: that goes, and the one ahead is the current one.
func TestOpenOfSegmentsWithoutFrames(t *testing.T) {
	l := alike(1, 2, 11)
	for what, b := range map[string][]byte{
		"empty":             nil,
		"a byte":            {0},
		"a piece":           raw(l[8])[:71],
		"zeros":             make([]byte, size),
		"another number":    raw(l[9]),
		"the number ahead":  raw(l[7]),
		"a falling epoch":   raw(at(9, 1), at(10, 2)),
		"a changed one":     append(make([]byte, 4), raw(l[8:]...)[4:]...),
		"one byte ahead":    append([]byte{0}, raw(l[8:]...)...),
		"beyond all epochs": append([]byte{0, 0, 0, 72, 255}, raw(l[8])[5:]...),
	} {
		w := api.Wal{Epoch: 3, Next: 9, Sure: 8, Seg: 1, Count: 8}
		d := disc(of(l[:8]), segment(9, b))
		told{w, l[:8], removes(9)}.holds(t, what, d, 0)
		told{w, nil, removes(9)}.holds(t, what, d, 8)
		told{begins(9), nil, removes(9, 1)}.holds(t, what, d, 9)

		d = disc(of(l[:8]), segment(9, b), segment(10, raw(l[9:]...)), segment(17, nil))
		told{w, l[3:8], removes(17, 10, 9)}.holds(t, what, d, 3)

		// So it is with the first one: nothing is left.
		if what != "a falling epoch" {
			d = disc(segment(9, b), segment(10, raw(l[9:]...)))
			for _, base := range []int64{8, 9, 10, 77} {
				told{begins(base), nil, removes(10, 9)}.holds(t, what, d, base)
			}
		}
	}
	d := disc(segment(1, nil))
	told{begins(0), nil, removes(1)}.holds(t, "the only one", d, 0)
	told{begins(3), nil, removes(1)}.holds(t, "the only one", d, 3)
}

// P12.5: a segment is read only if its number is the next record's.
func TestOpenOfSegmentsAstray(t *testing.T) {
	l := alike(1, 2, 20)
	w := api.Wal{Epoch: 3, Next: 4, Sure: 3, Seg: 1, Count: 3}
	told{w, l[:3], removes(5)}.holds(t, "one is left out", disc(of(l[:3]), of(l[4:6])), 0)
	told{w, l[:3], removes(3)}.holds(t, "one is there twice", disc(of(l[:3]), of(l[2:6])), 0)
	told{w, l[:3], removes(2)}.holds(t, "two are there twice", disc(of(l[:3]), of(l[1:6])), 0)
	told{w, l[:3], removes(3)}.holds(t, "it goes on under another name", disc(of(l[:3]), segment(3, raw(l[3:6]...))), 0)
	told{w, l[:3], removes(5)}.holds(t, "it goes on under a greater name", disc(of(l[:3]), segment(5, raw(l[3:6]...))), 0)
	told{w, l[:3], removes(7, 5)}.holds(t, "two behind", disc(of(l[:3]), of(l[4:6]), of(l[6:8])), 0)
	told{begins(6), nil, removes(5, 1)}.holds(t, "one is left out, and below", disc(of(l[:3]), of(l[4:6])), 6)
	told{w, l[:3], removes(api.MaxLsn)}.holds(t, "far behind", disc(of(l[:3]), of(row(api.MaxLsn, 2))), 0)
	w = api.Wal{Epoch: 3, Next: 6, Sure: 5, Seg: 4, Count: 2}
	told{w, l[:5], removes(9, 7)}.holds(t, "three, and two", disc(of(l[:3]), of(l[3:5]), of(l[6:8]), of(l[8:9])), 0)
	// The greatest number has none behind it.
	w = api.Wal{Epoch: 3, Next: api.MaxLsn + 1, Sure: api.MaxLsn, Seg: api.MaxLsn - 1, Count: 2}
	told{w, row(api.MaxLsn, 2), removes(api.MaxLsn)}.holds(t, "the last two", disc(of(row(api.MaxLsn-1, 2, 2)), of(row(api.MaxLsn, 2))), api.MaxLsn-1)
}

// P12.5: ErrArg: the disk isn't right, or base may not be; then ErrDown.
func TestOpenOfWrong(t *testing.T) {
	d := disc(of(alike(1, 1, 3)))
	for _, base := range []int64{least, -1, api.MaxLsn, api.MaxLsn + 1, 1<<32 + 1, most} {
		refuses(t, "base", d, base, api.ErrArg)
		refuses(t, "base, down", down(d), base, api.ErrArg)
		refuses(t, "base of none", disc(), base, api.ErrArg)
	}
	for what, d := range wrongDisks() {
		for _, d := range []api.Disk{d, down(d)} {
			for _, base := range []int64{-1, 0, 35, 40, 41} {
				w, is, l, err := opens(t, d, base)
				wanted(t, what, w, is, err, api.Wal{}, d, api.ErrArg)
				if len(l) != 0 {
					t.Errorf("%s: %v", what, l)
				}
			}
		}
	}
	for _, base := range []int64{0, 1, 3, 4} {
		refuses(t, "down", down(d), base, api.ErrDown)
		refuses(t, "down, none", down(disc()), base, api.ErrDown)
		refuses(t, "down, a gap", down(disc(of(alike(9, 1, 3)))), base, api.ErrDown)
		refuses(t, "down, over", down(disc(of(row(1, api.MaxEpoch, api.MaxEpoch)))), base, api.ErrDown)
	}
}

// P12.5: ErrGap, ahead of all that is done: the first segment's number is above base + 1, whatever that segment has.
func TestOpenOfGap(t *testing.T) {
	for what, d := range map[string]api.Disk{
		"whole":       disc(append(others(), of(alike(9, 1, 3)))...),
		"two":         disc(of(alike(9, 1, 3)), of(alike(12, 1, 3))),
		"empty":       disc(segment(9, nil)),
		"other bytes": disc(segment(9, []byte("any"))),
		"cut":         disc(segment(9, raw(alike(9, 1, 3)...)[:200]), segment(20, nil)),
		"over":        disc(of(row(9, api.MaxEpoch))),
	} {
		for base := range int64(8) {
			refuses(t, what, d, base, api.ErrGap)
		}
		if _, _, _, err := opens(t, d, 8); what != "over" && err != api.OK {
			t.Errorf("%s: base 8: %d", what, err)
		}
	}
	refuses(t, "the greatest number", disc(segment(api.MaxLsn, nil)), api.MaxLsn-2, api.ErrGap)
	told{begins(api.MaxLsn - 1), nil, removes(api.MaxLsn)}.holds(t, "the greatest number", disc(segment(api.MaxLsn, nil)), api.MaxLsn-1)
}

// P12.5: ErrOver, ahead of all that is done: the epoch would be too great; of frames that don't count it isn't asked.
func TestOpenOfOver(t *testing.T) {
	l := row(4, 1, api.MaxEpoch-1, api.MaxEpoch)
	for what, d := range map[string]api.Disk{
		"whole":           disc(of(l)),
		"in two":          disc(of(l[:2]), of(l[2:])),
		"with more":       disc(segment(4, append(raw(l...), 1)), segment(7, nil)),
		"an empty behind": disc(of(l), segment(7, nil)),
	} {
		for _, base := range []int64{3, 4, 5, 6} {
			refuses(t, what, d, base, api.ErrOver)
		}
		w, is, _, err := opens(t, d, 7)
		if err != api.OK || !same(w, begins(7)) || len(is.Files) != 0 {
			t.Errorf("%s: below base: %+v, %s, %d", what, w, shown(is), err)
		}
	}
	w := api.Wal{Epoch: api.MaxEpoch, Next: 6, Sure: 5, Seg: 4, Count: 2}
	told{w, l[:2], removes(7)}.holds(t, "behind a gap", disc(of(l[:2]), of(row(7, api.MaxEpoch))), 3)
	told{w, l[:2], []step{{4, 2 * size}}}.holds(t, "behind the end", disc(segment(4, raw(l[0], l[1], at(9, api.MaxEpoch)))), 3)
}

// numberOf is the number of a segment of that name; 0: it is none's.
func numberOf(name string) int64 {
	var number int64
	fmt.Sscanf(name, "log.%d", &number)
	if name != fmt.Sprintf("log.%010d", number) || number > api.MaxLsn {
		return 0
	}
	return number
}

// counting are the first frames of bytes that count, told one by one.
func counting(b []byte, lsn, epoch int64) []api.Frame {
	var l []api.Frame
	for len(l) < 8 && len(b) >= size {
		f, err := frame.Decode(b[:size])
		if err != api.OK || f.Lsn != lsn || f.Epoch < epoch {
			break
		}
		l, b, lsn, epoch = append(l, f), b[size:], lsn+1, f.Epoch
	}
	return l
}

// tells is what Open should answer, told otherwise: which segments stay, and which go.
func tells(d api.Disk, base int64) (told, api.Errno) {
	var x told
	var all []api.Frame
	var stay, goes []int64
	first, next, epoch, ended := int64(0), int64(0), int64(1), false
	for _, f := range d.Files {
		number := numberOf(f.Name)
		if number == 0 {
			continue
		}
		if first == 0 {
			first, next = number, number
		}
		var l []api.Frame
		if !ended && number == next {
			l = counting(f.Data, number, epoch)
		}
		if len(l) == 0 {
			goes, ended = append(goes, number), true
			continue
		}
		if len(f.Data) > size*len(l) {
			x.steps, ended = []step{{number, size * len(l)}}, true
		}
		all, stay = append(all, l...), append(stay, number)
		next, epoch = next+int64(len(l)), l[len(l)-1].Epoch
		x.w = api.Wal{Epoch: epoch + 1, Next: next, Sure: next - 1, Seg: number, Count: len(l)}
	}
	slices.Reverse(goes)
	slices.Reverse(stay)
	x.steps = append(removes(goes...), x.steps...)
	switch {
	case first > base+1:
		return told{}, api.ErrGap
	case len(all) == 0 || next-1 < base:
		return told{w: begins(base), steps: append(x.steps, removes(stay...)...)}, api.OK
	case epoch == api.MaxEpoch:
		return told{}, api.ErrOver
	}
	x.l = all[max(base+1-first, 0):]
	return x, api.OK
}

// anyJournal is a disk drawn with segments, most often in a row, here and there not.
func anyJournal(r *rand.Rand) api.Disk {
	files := map[string]api.File{}
	lsn, epoch := 1+r.Int63n(3), 1+r.Int63n(2)
	if r.Intn(20) == 0 {
		epoch = api.MaxEpoch - 1
	}
	for range r.Intn(6) {
		var l []api.Frame
		for range []int{0, 1, 2, 3, 7, 8, 8, 8, 9}[r.Intn(9)] {
			l = append(l, at(lsn+int64(len(l)), epoch))
			epoch = min(epoch+r.Int63n(2)*r.Int63n(2), api.MaxEpoch)
		}
		b := raw(l...)
		switch r.Intn(12) {
		case 0:
			b = append(b, make([]byte, r.Intn(80))...)
		case 1:
			b = b[:r.Intn(len(b)+1)]
		case 2:
			if len(b) > 0 {
				b[r.Intn(len(b))] ^= byte(1 + r.Intn(255))
			}
		case 3:
			epoch = max(epoch-r.Int63n(3), 1)
		case 4:
			lsn = max(lsn+r.Int63n(3)-1, 1)
		}
		f := segment(lsn, b)
		files[f.Name] = f
		lsn += int64(len(l))
	}
	var l []api.File
	for _, f := range files {
		l = append(l, f)
	}
	if r.Intn(4) == 0 {
		l = append(l, others()...)
	}
	return disc(l...)
}

// P12.5: whatever segments a disk has, it is as it is told frame by frame, with each fuse.
func TestOpenOfAny(t *testing.T) {
	r := rand.New(rand.NewSource(12))
	counts := map[api.Errno]int{}
	for range 6000 {
		d := anyJournal(r)
		base := r.Int63n(30)
		if r.Intn(2) == 0 {
			base = r.Int63n(4)
		}
		x, err := tells(d, base)
		counts[err]++
		if err != api.OK {
			refuses(t, "drawn", d, base, err)
			continue
		}
		x.holds(t, strings.ReplaceAll(shown(d), "] [", "]\n["), d, base)
	}
	if counts[api.OK] < 4000 || counts[api.ErrGap] < 100 || counts[api.ErrOver] < 20 {
		t.Errorf("drawn were %v", counts)
	}
}
