package wal_test

import (
	"fmt"
	"math"
	"slices"
	"strings"
	"testing"

	"snaffle/api"
	"snaffle/frame"
	"snaffle/wal"
)

const (
	size  = api.FrameSize
	most  = math.MaxInt64
	least = math.MinInt64
)

// at is a frame of that number and epoch; its kind and its body tell it from others.
func at(lsn, epoch int64) api.Frame {
	return api.Frame{Epoch: epoch, Lsn: lsn, Kind: int(1 + lsn%6), Body: [6]int64{lsn, -lsn, epoch, 0, least, most}}
}

// row are frames in a row, from a number on, one of each epoch.
func row(lsn int64, epochs ...int64) []api.Frame {
	var l []api.Frame
	for i, epoch := range epochs {
		l = append(l, at(lsn+int64(i), epoch))
	}
	return l
}

// alike are so many frames in a row, all of an epoch.
func alike(lsn, epoch int64, many int) []api.Frame {
	return row(lsn, slices.Repeat([]int64{epoch}, many)...)
}

// raw are the bytes of frames, told frame by frame.
func raw(l ...api.Frame) []byte {
	var b []byte
	for _, f := range l {
		one, err := frame.Encode(f)
		if err != api.OK {
			panic(fmt.Sprint("no frame: ", f))
		}
		b = append(b, one...)
	}
	return b
}

// file of a disk; all of it lasts.
func file(name string, b []byte) api.File { return api.File{Name: name, Data: b, Sure: len(b)} }

// segment of that number, with those bytes, all of which last.
func segment(lsn int64, b []byte) api.File { return file(fmt.Sprintf("log.%010d", lsn), b) }

// of frames: the segment that begins with them.
func of(l []api.Frame) api.File { return segment(l[0].Lsn, raw(l...)) }

// disc is a disk with files, put into their order; it has power, and no fuse.
func disc(files ...api.File) api.Disk {
	files = slices.Clone(files)
	slices.SortFunc(files, func(a, b api.File) int { return strings.Compare(a.Name, b.Name) })
	return api.Disk{Files: files, Room: api.MaxRoom, Fuse: api.None}
}

// others are files that are no segments, though some nearly are.
func others() []api.File {
	var l []api.File
	for _, name := range []string{
		"a", "log", "log.", "log.1", "log.000000001", "log.00000000001", "log.000000000a", "log.a000000001",
		"log.0000000000", "log.1000000001", "log.9999999999", "log..000000001", "log.000000001.", "loh.0000000001",
		"0log.0000000001", "0000000001", "log0000000001", "slot.0", "snap.0000000001", "tmp",
	} {
		l = append(l, file(name, []byte{7}))
	}
	return l
}

// fused is the disk with that fuse.
func fused(d api.Disk, fuse int) api.Disk {
	d.Fuse = fuse
	return d
}

// down is the disk without power.
func down(d api.Disk) api.Disk {
	d.Down = true
	return d
}

// roomed is the disk with so much room.
func roomed(d api.Disk, room int) api.Disk {
	d.Room = room
	return d
}

// shown is all that a disk is, as text: two disks are the same if it is.
func shown(d api.Disk) string {
	var b strings.Builder
	fmt.Fprintf(&b, "room %d fuse %d down %v", d.Room, d.Fuse, d.Down)
	for _, f := range d.Files {
		fmt.Fprintf(&b, " [%q %x %d]", f.Name, f.Data, f.Sure)
	}
	return b.String()
}

// same: are all fields of two journals the same, a list being nil or empty alike?
func same(a, b api.Wal) bool {
	return a.Epoch == b.Epoch && a.Next == b.Next && a.Sure == b.Sure && a.Seg == b.Seg && a.Count == b.Count &&
		slices.Equal(a.Wait, b.Wait)
}

// journal of an epoch in which so many frames last, so many of them in the current segment, and so many wait.
func journal(epoch, sure int64, count, waits int) api.Wal {
	w := api.Wal{Epoch: epoch, Next: sure + 1 + int64(waits), Sure: sure, Count: count, Wait: alike(sure+1, epoch, waits)}
	if count > 0 {
		w.Seg = sure + 1 - int64(count)
	}
	return w
}

// roomyWal is a journal with room behind what waits, in which something stands.
func roomyWal(w api.Wal) api.Wal {
	w.Wait = append(slices.Clone(w.Wait), at(71, 1), at(72, 1))[:len(w.Wait)]
	return w
}

// whollyWal is a journal whose list has all its room, copied.
func whollyWal(w api.Wal) api.Wal {
	w.Wait = slices.Clone(w.Wait[:cap(w.Wait)])
	return w
}

// roomyDisk is a disk with room behind each of its lists, in which something stands.
func roomyDisk(d api.Disk) api.Disk {
	files := append(slices.Clone(d.Files), file("spare", []byte{73}), file("spare", []byte{74}))
	for i, f := range files {
		files[i].Data = append(slices.Clone(f.Data), 75, 76)[:len(f.Data)]
	}
	d.Files = files[:len(d.Files)]
	return d
}

// whollyDisk is a disk whose lists have all their room, copied.
func whollyDisk(d api.Disk) api.Disk {
	d.Files = slices.Clone(d.Files[:cap(d.Files)])
	for i, f := range d.Files {
		d.Files[i].Data = slices.Clone(f.Data[:cap(f.Data)])
	}
	return d
}

// given are a journal and a disk that are handed in, with room in which something stands.
type given struct {
	w, wasW api.Wal
	d, wasD api.Disk
}

func give(w api.Wal, d api.Disk) given {
	g := given{w: roomyWal(w), d: roomyDisk(d)}
	g.wasW, g.wasD = whollyWal(g.w), whollyDisk(g.d)
	return g
}

// stay holds that what was handed in wasn't changed, nor its spare room.
func (g given) stay(t *testing.T) {
	t.Helper()
	if !same(whollyWal(g.w), g.wasW) || shown(whollyDisk(g.d)) != shown(g.wasD) {
		t.Fatalf("of %+v, %s what was handed in was changed", g.wasW, shown(g.wasD))
	}
}

// wrongWals are journals that aren't right, by what is wrong with them.
func wrongWals() map[string]api.Wal {
	l := map[string]api.Wal{"nothing at all": {}}
	but := func(what string, w api.Wal, change func(w *api.Wal)) {
		w.Wait = slices.Clone(w.Wait)
		change(&w)
		l[what] = w
	}
	w := journal(3, 20, 5, 4)
	for _, n := range []int64{least, -1, 0, 2, 4, api.MaxEpoch + 1, 1<<32 + 3, most} {
		but(fmt.Sprint("Epoch ", n), w, func(w *api.Wal) { w.Epoch = n })
	}
	for _, n := range []int64{least, -1, 0, api.MaxEpoch + 1, most} {
		but(fmt.Sprint("Epoch, nothing waiting ", n), journal(3, 0, 0, 0), func(w *api.Wal) { w.Epoch = n })
	}
	for _, n := range []int64{least, -1, 0, 1, 20, 21, 24, 26, api.MaxLsn + 2, 1<<32 + 25, most} {
		but(fmt.Sprint("Next ", n), w, func(w *api.Wal) { w.Next = n })
	}
	for _, n := range []int64{least, least + 1, -1, 0, 19, 21, 24, 25, 1<<32 + 20, most} {
		but(fmt.Sprint("Sure ", n), w, func(w *api.Wal) { w.Sure = n })
	}
	for _, n := range []int64{least, -16, -1, 0, 1, 15, 17, 21, 1<<32 + 16, most, most - 4} {
		but(fmt.Sprint("Seg ", n), w, func(w *api.Wal) { w.Seg = n })
	}
	for _, n := range []int{math.MinInt, -5, -1, 0, 4, 6, 9, 1<<32 + 5, math.MaxInt} {
		but(fmt.Sprint("Count ", n), w, func(w *api.Wal) { w.Count = n })
	}
	but("a Count, no Seg", journal(3, 4, 0, 0), func(w *api.Wal) { w.Count = 5 })
	but("a Count as Sure has it, no Seg", journal(3, 4, 5, 0), func(w *api.Wal) {})
	but("a Seg, no Count", journal(3, 4, 0, 0), func(w *api.Wal) { w.Seg = 5 })
	but("9 in a segment", journal(3, 20, 9, 0), func(w *api.Wal) {})
	but("Count below 0 as Seg has it", journal(3, 20, 0, 0), func(w *api.Wal) { w.Seg, w.Count = 22, -1 })
	but("Seg below 1 as Count has it", journal(3, 4, 6, 0), func(w *api.Wal) {})
	but("Next beyond", journal(3, api.MaxLsn+1, 0, 0), func(w *api.Wal) {})
	but("Next beyond, one waits", journal(3, api.MaxLsn-1, 0, 0), func(w *api.Wal) { w.Next, w.Wait = w.Next+2, alike(api.MaxLsn, 3, 2) })
	but("Sure below 0, as all waits", journal(3, 0, 0, 1), func(w *api.Wal) { w.Sure, w.Wait = -1, alike(0, 3, 2) })
	but("33 wait", journal(3, 20, 5, api.MaxWait+1), func(w *api.Wal) {})
	but("one fewer waits", w, func(w *api.Wal) { w.Wait = w.Wait[:3] })
	but("the first one lacks", w, func(w *api.Wal) { w.Wait = w.Wait[1:] })
	but("one more waits", w, func(w *api.Wal) { w.Wait = append(w.Wait, at(25, 3)) })
	but("none waits", w, func(w *api.Wal) { w.Wait = nil })
	but("turned about", w, func(w *api.Wal) { slices.Reverse(w.Wait) })
	for i := range w.Wait {
		for _, f := range []api.Frame{{}, at(20+int64(i), 3), at(22+int64(i), 3), at(21+int64(i), 2), at(21+int64(i), 4), at(21+int64(i), 0)} {
			but(fmt.Sprintf("%d is %v", i, f), w, func(w *api.Wal) { w.Wait[i] = f })
		}
		for _, kind := range []int{math.MinInt, -1, 0, 7, 1<<32 + 1, math.MaxInt} {
			but(fmt.Sprintf("%d has the kind %d", i, kind), w, func(w *api.Wal) { w.Wait[i].Kind = kind })
		}
	}
	but("epochs rise", w, func(w *api.Wal) { w.Wait[2].Epoch, w.Wait[3].Epoch = 4, 4 })
	return l
}

// rightWals are journals that are right, at their edges.
func rightWals() []api.Wal {
	l := []api.Wal{
		journal(1, 0, 0, 0), journal(1, 0, 0, 1), journal(1, 0, 0, api.MaxWait), journal(api.MaxEpoch, 0, 0, 3),
		journal(3, api.MaxLsn, 0, 0), journal(3, api.MaxLsn, 8, 0), journal(3, api.MaxLsn-1, 3, 1),
		journal(3, api.MaxLsn-32, 3, 32), journal(3, 1, 1, 0), journal(3, 8, 8, 2), journal(3, 7, 7, 2), journal(3, 77, 0, 7),
	}
	for count := range api.SegFrames + 1 {
		l = append(l, journal(4, 20, count, 0), journal(4, 20, count, 5))
	}
	w := journal(4, 20, 3, 2)
	w.Wait[1].Body = [6]int64{most, least, -1, 0, 1, 2}
	return append(l, w)
}

// P12.1: a segment's name, or nothing.
func TestName(t *testing.T) {
	for lsn, want := range map[int64]string{
		1: "log.0000000001", 2: "log.0000000002", 9: "log.0000000009", 10: "log.0000000010", 99: "log.0000000099",
		1234567: "log.0001234567", 123456789: "log.0123456789", 999999999: "log.0999999999", api.MaxLsn: "log.1000000000",
		0: "", -1: "", -10: "", api.MaxLsn + 1: "", 9999999999: "", 10000000000: "", 1<<32 + 1: "", most: "", least: "",
	} {
		if got := wal.Name(lsn); got != want {
			t.Errorf("Name(%d) = %q; want %q", lsn, got, want)
		}
	}
}

// P12.1: the numbers of a disk's segments rise; what isn't just so named is none, and whatever a segment has, it is one.
func TestSegments(t *testing.T) {
	l := []api.File{segment(1, nil), segment(9, raw(at(9, 1))), segment(10, []byte("any")), segment(999999999, nil), segment(api.MaxLsn, nil)}
	for what, x := range map[string]struct {
		d    api.Disk
		want []int64
	}{
		"nothing":       {api.Disk{}, nil},
		"no file":       {disc(), nil},
		"others alone":  {disc(others()...), nil},
		"segments":      {disc(l...), []int64{1, 9, 10, 999999999, api.MaxLsn}},
		"without power": {down(fused(disc(l...), 0)), []int64{1, 9, 10, 999999999, api.MaxLsn}},
		"among others":  {disc(slices.Concat(others(), l)...), []int64{1, 9, 10, 999999999, api.MaxLsn}},
		"one":           {disc(segment(77, nil)), []int64{77}},
		"fuse":          {fused(disc(l...), -2), nil},
		"room":          {roomed(disc(l...), 74), nil},
		"just room":     {roomed(disc(l...), 75), []int64{1, 9, 10, 999999999, api.MaxLsn}},
		"turned about":  {api.Disk{Files: []api.File{l[1], l[0]}, Room: 99}, nil},
		"twice":         {api.Disk{Files: []api.File{l[0], l[0]}, Room: 99}, nil},
		"a wrong file":  {disc(l[0], file("A", nil)), nil},
		"a sign":        {disc(file("log.+000000001", nil)), nil},
		"a sign below":  {disc(file("log.-000000001", nil)), nil},
		"underscored":   {disc(file("log.0000_00001", nil)), nil},
	} {
		g := give(api.Wal{}, x.d)
		if got := wal.Segments(g.d); !slices.Equal(got, x.want) {
			t.Errorf("%s: Segments = %v; want %v", what, got, x.want)
		}
		g.stay(t)
	}
}

// P12.1: what a right journal is, each of its edges.
func TestRight(t *testing.T) {
	for _, w := range rightWals() {
		g := give(w, api.Disk{})
		if !wal.Right(g.w) {
			t.Errorf("isn't right: %+v", w)
		}
		g.stay(t)
	}
	for what, w := range wrongWals() {
		g := give(w, api.Disk{})
		if wal.Right(g.w) {
			t.Errorf("%s: is right: %+v", what, w)
		}
		g.stay(t)
	}
}

// P12.1: of small numbers, all at once, just those are right that the chapter's words have.
func TestRightOfSmall(t *testing.T) {
	for n := range 4 * 4 * 4 * 4 * 4 * 4 {
		next, sure, seg, count, epoch := int64(n%4), int64(n/4%4), int64(n/16%4), n/64%4, int64(n/256%4)
		waits := n / 1024
		w := api.Wal{Epoch: epoch, Next: next, Sure: sure, Seg: seg, Count: count}
		for i := range waits {
			w.Wait = append(w.Wait, api.Frame{Epoch: epoch, Lsn: sure + 1 + int64(i), Kind: api.Kill})
		}
		none, some := seg == 0 && count == 0, seg > 0 && count > 0 && seg+int64(count) == sure+1
		want := epoch > 0 && next > 0 && sure+int64(waits)+1 == next && (none || some)
		if wal.Right(w) != want {
			t.Errorf("Right(%+v) = %v", w, !want)
		}
	}
}

// puts is Put, held to change nothing that was handed in.
func puts(t *testing.T, w api.Wal, kind int, body [6]int64) (api.Wal, api.Errno) {
	t.Helper()
	g := give(w, api.Disk{})
	got, err := wal.Put(g.w, kind, body)
	g.stay(t)
	then := whollyWal(got)
	then.Wait = then.Wait[:len(got.Wait)]
	if err == api.OK {
		clear(got.Wait[:cap(got.Wait)])
		g.stay(t)
	}
	return then, err
}

// P12.2: a frame more waits, of the next number and the journal's epoch.
func TestPut(t *testing.T) {
	for _, w := range rightWals() {
		for kind := api.New; kind <= api.Event; kind++ {
			if w.Next > api.MaxLsn || len(w.Wait) == api.MaxWait {
				continue
			}
			body := [6]int64{least, most, 0, -1, w.Next, int64(kind)}
			want := w
			want.Next++
			want.Wait = append(slices.Clone(w.Wait), api.Frame{Epoch: w.Epoch, Lsn: w.Next, Kind: kind, Body: body})
			got, err := puts(t, w, kind, body)
			if err != api.OK || !same(got, want) || !wal.Right(got) {
				t.Errorf("Put(%+v, %d, %v) = %+v, %d; want %+v", w, kind, body, got, err, want)
			}
		}
	}
}

// P12.2: as many as there is room for wait, one behind the other, and no more; numbers end at the greatest one.
func TestPutEnds(t *testing.T) {
	w := journal(2, 5, 5, 0)
	for i := range int64(api.MaxWait) {
		f := at(6+i, 2)
		then, err := puts(t, w, f.Kind, f.Body)
		if err != api.OK || !same(then, journal(2, 5, 5, int(i)+1)) {
			t.Fatalf("Put %d: %+v, %d", i, then, err)
		}
		w = then
	}
	then, err := puts(t, w, api.New, [6]int64{})
	if err != api.ErrFull || !same(then, w) {
		t.Errorf("Put of 33: %+v, %d", then, err)
	}
	w = journal(2, api.MaxLsn-2, 0, 0)
	for i, want := range []api.Errno{api.OK, api.OK, api.ErrOver, api.ErrOver} {
		then, err := puts(t, w, api.Cancel, [6]int64{})
		if err != want || want != api.OK && !same(then, w) {
			t.Errorf("Put %d: %+v, %d; want %d", i, then, err, want)
		}
		w = then
	}
}

// P12.2: each error leaves the journal as it is; of several the first one that the chapter names is told.
func TestPutErrors(t *testing.T) {
	refuses := func(what any, w api.Wal, kind int, want api.Errno) {
		t.Helper()
		if got, err := puts(t, w, kind, [6]int64{1, 2, 3, 4, 5, 6}); err != want || !same(got, w) {
			t.Errorf("%v: Put = %+v, %d; want %+v, %d", what, got, err, w, want)
		}
	}
	for what, w := range wrongWals() {
		for kind := api.New - 1; kind <= api.Event+1; kind++ {
			refuses(what, w, kind, api.ErrArg)
		}
	}
	full, over := journal(1, 7, 7, api.MaxWait), journal(1, api.MaxLsn, 7, 0)
	both := journal(1, api.MaxLsn-api.MaxWait, 7, api.MaxWait)
	for _, kind := range []int{math.MinInt, -1, 0, 7, 8, 1<<32 + 1, math.MaxInt} {
		for _, w := range []api.Wal{journal(1, 0, 0, 0), journal(3, 20, 5, 4), full, over, both} {
			refuses(kind, w, kind, api.ErrArg)
		}
	}
	for kind := api.New; kind <= api.Event; kind++ {
		refuses("full", full, kind, api.ErrFull)
		refuses("over", over, kind, api.ErrOver)
		refuses("over and full", both, kind, api.ErrOver)
	}
}
