package wal_test

import (
	"math/rand"
	"slices"
	"testing"

	"snaffle/api"
	"snaffle/disk"
	"snaffle/wal"
)

// walk is a journal and its disk, with what befalls them.
type walk struct {
	draw *rand.Rand
	w    api.Wal
	d    api.Disk
	put  []api.Frame // all that were put and not lost, from number 1 on
	base int64       // what is up to it may be dropped
}

// again is what a disk of which the power went has when it comes again.
func (x *walk) again(t *testing.T, d api.Disk, fuse int) api.Disk {
	t.Helper()
	keep := make([]int, x.draw.Intn(4))
	for i := range keep {
		keep[i] = []int{0, 1, 71, 72, 73, 144, 200, 10000}[x.draw.Intn(8)]
	}
	d, err := disk.Back(d, keep, fuse)
	if err != api.OK {
		t.Fatalf("the power doesn't come again: %d", err)
	}
	return d
}

// begins holds that what is read is a beginning of what was put, and has all that was Sure.
func (x *walk) begins(t *testing.T, w api.Wal, l []api.Frame, base int64) {
	t.Helper()
	if w.Sure < x.w.Sure || w.Sure > int64(len(x.put)) || w.Next != w.Sure+1 || len(w.Wait) != 0 {
		t.Fatalf("of %+v there is %+v", x.w, w)
	}
	if !slices.Equal(l, x.put[base:w.Sure]) {
		t.Fatalf("from %d on %v was read; put was %v", base, l, x.put)
	}
	if w.Seg != 0 && w.Epoch != x.put[w.Sure-1].Epoch+1 {
		t.Fatalf("behind %v there is %+v", x.put[w.Sure-1], w)
	}
}

// same holds that what is read of a disk from a number on is the same when it is read again, or after the power went,
// whenever that was while it was read; it is the journal, the disk and the frames that are.
func (x *walk) same(t *testing.T, d api.Disk, base int64) (api.Wal, api.Disk, []api.Frame) {
	t.Helper()
	w, is, l, err := opens(t, d, base)
	if err != api.OK {
		t.Fatalf("from %d on %s isn't read: %d", base, shown(d), err)
	}
	holds := func(d api.Disk) {
		t.Helper()
		v, at, m, err := opens(t, d, base)
		wanted(t, "read again", v, at, err, w, is, api.OK)
		if !slices.Equal(m, l) {
			t.Fatalf("read again from %d on: %v; was %v", base, m, l)
		}
	}
	holds(is)
	holds(x.again(t, is, api.None))
	for fuse := 0; ; fuse++ {
		_, half, _, err := opens(t, fused(d, fuse), base)
		if err == api.OK {
			return w, is, l
		}
		if err != api.ErrDown || !half.Down {
			t.Fatalf("with fuse %d: %d", fuse, err)
		}
		holds(x.again(t, half, api.None))
	}
}

// anyway, if the power went now, what was put and is Sure would be read.
func (x *walk) anyway(t *testing.T) {
	t.Helper()
	if !wal.Right(x.w) || !disk.Right(x.d) {
		t.Fatalf("isn't right: %+v, %s", x.w, shown(x.d))
	}
	d := x.again(t, x.d, api.None)
	base := x.base + x.draw.Int63n(x.w.Sure-x.base+1)
	w, _, l := x.same(t, d, base)
	x.begins(t, w, l, base)
	x.same(t, d, x.w.Sure+x.draw.Int63n(12))
}

// puts some records.
func (x *walk) puts(t *testing.T) {
	t.Helper()
	for range 1 + x.draw.Intn(12) {
		f := at(x.w.Next, x.w.Epoch)
		w, err := wal.Put(x.w, f.Kind, f.Body)
		if err == api.ErrFull && len(x.w.Wait) == api.MaxWait {
			return
		}
		if err != api.OK {
			t.Fatalf("Put of %v: %d", f, err)
		}
		x.w, x.put = w, append(x.put, f)
	}
}

// writes what waits; now and then the power goes.
func (x *walk) writes(t *testing.T) {
	t.Helper()
	if x.draw.Intn(3) == 0 {
		x.d.Fuse = x.draw.Intn(8)
	}
	was := x.w
	w, d, err := commits(t, x.w, x.d)
	x.w, x.d = w, d
	switch {
	case err == api.OK:
		if w.Sure != was.Next-1 || len(w.Wait) != 0 {
			t.Fatalf("of %+v there is %+v", was, w)
		}
	case err == api.ErrDown && d.Down && len(was.Wait) > 0:
	case err == api.ErrFull && d.Room < api.MaxRoom && len(was.Wait) > 0:
	default:
		t.Fatalf("Commit of %+v: %d", was, err)
	}
	x.d.Fuse = api.None
}

// drops what is up to a number.
func (x *walk) drops(t *testing.T) {
	t.Helper()
	x.base += x.draw.Int63n(x.w.Sure - x.base + 1)
	if x.draw.Intn(3) == 0 {
		x.d.Fuse = x.draw.Intn(3)
	}
	was := wal.Segments(x.d)
	d, err := drops(t, x.w, x.d, x.base)
	if err != api.OK && (err != api.ErrDown || !d.Down) {
		t.Fatalf("Drop of %+v up to %d: %d", x.w, x.base, err)
	}
	is := wal.Segments(d)
	if !slices.Equal(is, was[len(was)-len(is):]) {
		t.Fatalf("of %v there are %v", was, is)
	}
	x.d = d
	x.d.Fuse = api.None
}

// comes again: the power, and the journal is read.
func (x *walk) comes(t *testing.T) {
	t.Helper()
	w, d, l := x.same(t, x.again(t, x.d, api.None), x.base)
	x.begins(t, w, l, x.base)
	x.w, x.d, x.put = w, d, x.put[:w.Sure]
}

// P12.6: whatever is done, and whenever the power goes, what is read then is a beginning of what was put, and has all
// that was Sure; read again, or after the power went while it was read, it is the same.
func TestWhenThePowerGoes(t *testing.T) {
	for seed := range int64(120) {
		draw := rand.New(rand.NewSource(seed))
		room := []int{api.MaxRoom, 40 * size, 20*size + 5}[draw.Intn(3)]
		x := walk{draw: draw, w: begins(0), d: roomed(disc(), room)}
		for range 30 {
			switch draw.Intn(7) {
			case 0, 1, 2:
				x.puts(t)
			case 3, 4:
				x.writes(t)
			case 5:
				x.drops(t)
			case 6:
				x.comes(t)
			}
			x.anyway(t)
			if x.d.Down {
				x.comes(t)
			}
		}
	}
}

// P12.6: nine records, of which the power leaves any bytes: those that are whole are read, and the journal goes on
// behind them.
func TestWhatThePowerLeaves(t *testing.T) {
	for fuse := range 4 {
		_, d, err := commits(t, journal(1, 0, 0, 9), fused(disc(), fuse))
		if err != api.ErrDown {
			t.Fatalf("fuse %d: %d", fuse, err)
		}
		for keep := range 8*size + 2 {
			back, _ := disk.Back(d, []int{keep}, api.None)
			want := int64(min(keep/size, 8))
			if fuse >= 2 { // the first segment lasts
				want = int64(8 + min(keep/size, 1))
			}
			w, is, l, err := opens(t, back, 0)
			if err != api.OK || w.Sure != want || !slices.Equal(l, alike(1, 1, int(want))) {
				t.Fatalf("fuse %d, keep %d: %+v, %v, %d; want %d", fuse, keep, w, l, err, want)
			}
			w, _ = puts(t, w, api.Kill, [6]int64{9})
			w, is, err = commits(t, w, is)
			if err != api.OK || w.Sure != want+1 {
				t.Fatalf("fuse %d, keep %d, one more: %+v, %d", fuse, keep, w, err)
			}
			_, _, l, err = opens(t, is, 0)
			more := api.Frame{Epoch: min(want, 1) + 1, Lsn: want + 1, Kind: api.Kill, Body: [6]int64{9}}
			if err != api.OK || !slices.Equal(l, append(alike(1, 1, int(want)), more)) {
				t.Fatalf("fuse %d, keep %d, one more: %v, %d", fuse, keep, l, err)
			}
		}
	}
}
