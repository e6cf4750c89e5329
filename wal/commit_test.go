package wal_test

import (
	"fmt"
	"math"
	"slices"
	"testing"

	"snaffle/api"
	"snaffle/disk"
	"snaffle/wal"
)

// commits is Commit, held to change nothing that was handed in.
func commits(t *testing.T, w api.Wal, d api.Disk) (api.Wal, api.Disk, api.Errno) {
	t.Helper()
	g := give(w, d)
	then, is, err := wal.Commit(g.w, g.d)
	g.stay(t)
	return then, is, err
}

// drops is Drop, held to change nothing that was handed in.
func drops(t *testing.T, w api.Wal, d api.Disk, lsn int64) (api.Disk, api.Errno) {
	t.Helper()
	g := give(w, d)
	is, err := wal.Drop(g.w, g.d, lsn)
	g.stay(t)
	return is, err
}

// wanted holds a journal and a disk against what they should be.
func wanted(t *testing.T, what any, w api.Wal, d api.Disk, err api.Errno, wantW api.Wal, wantD api.Disk, wantErr api.Errno) {
	t.Helper()
	if err != wantErr || !same(w, wantW) || shown(d) != shown(wantD) {
		t.Fatalf("%v:\n got %+v, %s, error %d\nwant %+v, %s, error %d", what, w, shown(d), err, wantW, shown(wantD), wantErr)
	}
}

// current is a disk that has the current segment of a journal, and such files as well.
func current(w api.Wal, files ...api.File) api.Disk {
	if w.Seg == 0 {
		return disc(files...)
	}
	return disc(append(slices.Clone(files), of(alike(w.Seg, w.Epoch, w.Count)))...)
}

// takes the first record that waits, as the chapter has it, told one by one: the segment that it goes to.
func takes(w *api.Wal) int64 {
	if w.Seg == 0 || w.Count == 8 {
		w.Seg, w.Count = w.Sure+1, 0
	}
	w.Count++
	w.Sure++
	w.Wait = w.Wait[1:]
	return w.Seg
}

// byHand is what there is when what waits is written, told with the disk's own operations: one Append and one Sync of
// as many as go to one segment.
func byHand(w api.Wal, d api.Disk) (api.Wal, api.Disk, api.Errno) {
	for len(w.Wait) > 0 {
		then, b := w, raw(w.Wait[0])
		to := takes(&then)
		for len(then.Wait) > 0 && then.Count < 8 {
			b = append(b, raw(then.Wait[0])...)
			takes(&then)
		}
		var err api.Errno
		if d, err = disk.Append(d, fmt.Sprintf("log.%010d", to), b); err != api.OK {
			return w, d, err
		}
		if d, err = disk.Sync(d, fmt.Sprintf("log.%010d", to)); err != api.OK {
			return w, d, err
		}
		w = then
	}
	return w, d, api.OK
}

// P12.3, and the chapter's example: nine records put and committed are two segments.
func TestCommit(t *testing.T) {
	w, d := journal(1, 0, 0, 9), disc(others()...)
	l := slices.Clone(w.Wait)
	then, is, err := commits(t, w, d)
	wanted(t, "nine", then, is, err, journal(1, 9, 1, 0), disc(append(others(), of(l[:8]), of(l[8:]))...), api.OK)

	more, _ := wal.Put(then, api.Kill, [6]int64{1})
	then, is, err = commits(t, more, is)
	f := api.Frame{Epoch: 1, Lsn: 10, Kind: api.Kill, Body: [6]int64{1}}
	wanted(t, "ten", then, is, err, journal(1, 10, 2, 0), disc(append(others(), of(l[:8]), segment(9, raw(l[8], f)))...), api.OK)
}

// P12.3: the current segment has room for so many more; it begins anew where it is full, or there is none; and all
// that is written lasts.
func TestCommitFills(t *testing.T) {
	for count := range api.SegFrames + 1 {
		for waits := range api.MaxWait + 1 {
			w := journal(3, 100, count, waits)
			d := current(w, of(alike(1, 1, 8)))
			then, is, err := commits(t, w, d)
			wantW, wantD, _ := byHand(w, d)
			wanted(t, fmt.Sprint(count, waits), then, is, err, wantW, wantD, api.OK)
			if !wal.Right(then) || len(then.Wait) != 0 || then.Sure != w.Next-1 || then.Next != w.Next || then.Epoch != 3 {
				t.Fatalf("%d, %d: %+v", count, waits, then)
			}
			for _, f := range is.Files {
				if f.Sure != len(f.Data) {
					t.Fatalf("%d, %d: %s doesn't last", count, waits, f.Name)
				}
			}
		}
	}
	w := journal(3, api.MaxLsn-1, 8, 1)
	then, is, err := commits(t, w, current(w))
	wanted(t, "the last one", then, is, err, journal(3, api.MaxLsn, 1, 0), current(w, of(alike(api.MaxLsn, 3, 1))), api.OK)
}

// P12.3: whenever the power goes, what was synced ahead of it counts, and nothing else does.
func TestCommitWithoutPower(t *testing.T) {
	for _, count := range []int{0, 1, 5, 8} {
		for _, waits := range []int{0, 1, 3, 4, 8, 9, 32} {
			w := journal(2, 40, count, waits)
			for fuse := range 2*waits + 3 {
				d := fused(current(w), fuse)
				then, is, err := commits(t, w, d)
				wantW, wantD, wantErr := byHand(w, d)
				wanted(t, fmt.Sprint(count, waits, fuse), then, is, err, wantW, wantD, wantErr)
				if !wal.Right(then) || err != api.OK && err != api.ErrDown {
					t.Fatalf("%d, %d, %d: %+v, %d", count, waits, fuse, then, err)
				}
			}
			d := down(current(w))
			then, is, err := commits(t, w, d)
			want := api.ErrDown
			if waits == 0 {
				want = api.OK
			}
			wanted(t, "down", then, is, err, w, d, want)
		}
	}
	w := journal(2, 40, 5, 9) // 3 go to one segment, 6 to the next one
	for fuse, want := range []api.Wal{w, w, {Epoch: 2, Next: 50, Sure: 43, Seg: 36, Count: 8, Wait: w.Wait[3:]}, {Epoch: 2, Next: 50, Sure: 43, Seg: 36, Count: 8, Wait: w.Wait[3:]}, journal(2, 49, 6, 0)} {
		if then, _, _ := commits(t, w, fused(current(w), fuse)); !same(then, want) {
			t.Errorf("fuse %d: %+v; want %+v", fuse, then, want)
		}
	}
}

// P12.3: where the disk has no room, it is told; what was synced ahead counts.
func TestCommitWithoutRoom(t *testing.T) {
	w := journal(2, 40, 5, 9)
	d := current(w)
	first := api.Wal{Epoch: 2, Next: 50, Sure: 43, Seg: 36, Count: 8, Wait: w.Wait[3:]}
	for room, want := range map[int]struct {
		w   api.Wal
		err api.Errno
	}{
		5 * size: {w, api.ErrFull}, 8*size - 1: {w, api.ErrFull}, 8 * size: {first, api.ErrFull}, 13 * size: {first, api.ErrFull},
		14*size - 1: {first, api.ErrFull}, 14 * size: {journal(2, 49, 6, 0), api.OK},
	} {
		d := roomed(d, room)
		then, is, err := commits(t, w, d)
		_, wantD, _ := byHand(w, d)
		wanted(t, room, then, is, err, want.w, wantD, want.err)
	}
	var many []api.File
	for i := range api.MaxFiles - 1 {
		many = append(many, file(fmt.Sprintf("a%02d", i), nil))
	}
	d = current(w, many...)
	then, is, err := commits(t, w, d)
	_, wantD, _ := byHand(w, d)
	wanted(t, "64 files", then, is, err, first, wantD, api.ErrFull)
	then, is, err = commits(t, then, roomed(is, api.MaxRoom))
	wanted(t, "64 files, again", then, is, err, first, wantD, api.ErrFull)
}

// amiss are disks on which something of journal(2, 40, 5, ..) is otherwise.
func amiss() map[string]api.Disk {
	seg := raw(alike(36, 2, 5)...)
	return map[string]api.Disk{
		"no segment":              disc(),
		"others alone":            disc(others()...),
		"another segment":         disc(segment(37, seg)),
		"one ahead":               disc(segment(28, seg)),
		"empty":                   disc(segment(36, nil)),
		"a frame less":            disc(segment(36, seg[:4*size])),
		"a byte less":             disc(segment(36, seg[1:])),
		"a byte more":             disc(segment(36, append(slices.Clone(seg), 0))),
		"a frame more":            disc(segment(36, raw(alike(36, 2, 6)...))),
		"the next one":            disc(segment(36, seg), segment(41, nil)),
		"one far ahead":           disc(segment(36, seg), segment(api.MaxLsn, seg)),
		"two above":               disc(segment(36, seg), segment(44, nil), segment(52, nil)),
		"one above, two below it": disc(segment(1, nil), segment(36, seg), segment(50, nil)),
	}
}

// wrongDisks aren't right, though they have a segment as journal(2, 40, 5, ..) has it.
func wrongDisks() map[string]api.Disk {
	seg := segment(36, raw(alike(36, 2, 5)...))
	short := seg
	short.Sure++
	return map[string]api.Disk{
		"fuse":         fused(disc(seg), -2),
		"room":         roomed(disc(seg), 5*size-1),
		"no room":      roomed(disc(seg), -1),
		"much room":    roomed(disc(seg), api.MaxRoom+1),
		"twice":        {Files: []api.File{seg, seg}, Room: api.MaxRoom},
		"turned about": {Files: []api.File{seg, file("a", nil)}, Room: api.MaxRoom},
		"name":         disc(seg, file("A", nil)),
		"sure":         disc(short),
	}
}

// P12.3, P12.4: ErrArg, and all as it is, where the journal or the disk isn't right, or something of the journal's is
// otherwise on the disk, whether or not it has power.
func TestWrongOfCommitAndDrop(t *testing.T) {
	refuses := func(what any, w api.Wal, d api.Disk) {
		t.Helper()
		for _, d := range []api.Disk{d, down(d)} {
			then, is, err := commits(t, w, d)
			wanted(t, what, then, is, err, w, d, api.ErrArg)
			for _, lsn := range []int64{least, 0, 1, 40, most} {
				is, err := drops(t, w, d, lsn)
				wanted(t, what, w, is, err, w, d, api.ErrArg)
			}
		}
	}
	for what, w := range wrongWals() {
		refuses(what, w, disc(of(alike(16, 3, 5))))
		refuses(what, w, disc())
	}
	for _, waits := range []int{0, 2, 9} {
		for what, d := range amiss() {
			refuses(what, journal(2, 40, 5, waits), d)
		}
		for what, d := range wrongDisks() {
			refuses(what, journal(2, 40, 5, waits), d)
			refuses(what, journal(2, 40, 0, waits), d)
		}
		refuses("no current one, one above", journal(2, 40, 0, waits), disc(segment(41, nil)))
		refuses("no current one, one far above", journal(2, 40, 0, waits), disc(segment(40, nil), segment(77, nil)))
		refuses("at first, one above", journal(1, 0, 0, waits), disc(segment(1, nil)))
	}
}

// P12.3: what is there of segments at most Sure, or of the bytes within the current one, isn't asked.
func TestCommitBesideAnything(t *testing.T) {
	for _, d := range []api.Disk{
		disc(segment(36, make([]byte, 5*size))),
		disc(segment(36, raw(alike(77, 5, 5)...)), segment(1, nil), segment(2, []byte("any")), segment(40, nil)),
		disc(append(others(), of(alike(36, 2, 5)))...),
	} {
		w := journal(2, 40, 5, 2)
		then, is, err := commits(t, w, d)
		wantW, wantD, _ := byHand(w, d)
		wanted(t, shown(d), then, is, err, wantW, wantD, api.OK)
		w = journal(2, 40, 0, 2)
		then, is, err = commits(t, w, d)
		wantW, wantD, _ = byHand(w, d)
		wanted(t, shown(d), then, is, err, wantW, wantD, api.OK)
	}
}

// dropped is a disk without segments of those numbers.
func dropped(d api.Disk, lsns ...int64) api.Disk {
	d.Files = slices.DeleteFunc(slices.Clone(d.Files), func(f api.File) bool {
		return slices.ContainsFunc(lsns, func(lsn int64) bool { return f.Name == fmt.Sprintf("log.%010d", lsn) })
	})
	return d
}

// P12.4: of the segments, in order, each but the current one is removed, as long as all its records are at most lsn.
func TestDrop(t *testing.T) {
	files := []api.File{of(alike(4, 1, 8)), of(alike(12, 1, 3)), of(alike(15, 2, 8)), of(alike(23, 2, 5))}
	d := disc(append(others(), files...)...)
	drop := func(w api.Wal, d api.Disk, lsn int64, gone ...int64) {
		t.Helper()
		is, err := drops(t, w, d, lsn)
		wanted(t, lsn, w, is, err, w, dropped(d, gone...), api.OK)
	}
	for _, waits := range []int{0, 3} {
		with, without := journal(2, 27, 5, waits), journal(2, 27, 0, waits)
		for _, w := range []api.Wal{with, without} {
			for _, lsn := range []int64{least, -1, 0, 1, 3, 4, 10} {
				drop(w, d, lsn)
			}
			for _, lsn := range []int64{11, 12, 13} {
				drop(w, d, lsn, 4)
			}
			for _, lsn := range []int64{14, 15, 21} {
				drop(w, d, lsn, 4, 12)
			}
			for _, lsn := range []int64{22, 23, 26} {
				drop(w, d, lsn, 4, 12, 15)
			}
		}
		for _, lsn := range []int64{27, 28, 31, api.MaxLsn, api.MaxLsn + 1, most} {
			drop(with, d, lsn, 4, 12, 15)
			drop(without, d, lsn, 4, 12, 15, 23)
		}
		drop(journal(2, 27, 5, waits), disc(files[3]), most)
		drop(journal(2, 27, 0, waits), disc(), most)
		drop(journal(2, 30, 0, waits), disc(files[3]), 29)
		drop(journal(2, 30, 0, waits), disc(files[3]), 30, 23)
	}
}

// P12.4: the current segment stays where others stand behind it, which go; what segments have isn't asked.
func TestDropAroundTheCurrent(t *testing.T) {
	w := journal(1, 8, 8, 1)
	d := disc(of(alike(1, 1, 8)), segment(4, nil), segment(6, []byte("any")))
	for lsn, gone := range map[int64][]int64{0: nil, 2: nil, 3: nil, 4: nil, 5: {4}, 7: {4}, 8: {4, 6}, 9: {4, 6}, most: {4, 6}} {
		is, err := drops(t, w, d, lsn)
		wanted(t, lsn, w, is, err, w, dropped(d, gone...), api.OK)
	}
}

// P12.4: an error of the disk ends it; what went ahead is gone.
func TestDropWithoutPower(t *testing.T) {
	w := journal(2, 27, 5, 1)
	d := disc(of(alike(4, 1, 8)), of(alike(12, 1, 3)), of(alike(15, 2, 8)), of(alike(23, 2, 5)))
	gone := []int64{4, 12, 15}
	for many, lsn := range []int64{10, 11, 14, 22} {
		for fuse := range 5 {
			is, err := drops(t, w, fused(d, fuse), lsn)
			want, wantErr := fused(dropped(d, gone[:min(fuse, many)]...), fuse-min(fuse, many)), api.OK
			if fuse < many {
				want, wantErr = down(want), api.ErrDown
			}
			wanted(t, fmt.Sprint(lsn, fuse), w, is, err, w, want, wantErr)
		}
		for _, fuse := range []int{api.None, 0, math.MaxInt} {
			d, want := down(fused(d, fuse)), api.OK
			if many > 0 {
				want = api.ErrDown
			}
			is, err := drops(t, w, d, lsn)
			wanted(t, lsn, w, is, err, w, d, want)
		}
	}
}

// P12.4: behind it the journal goes on, and what is dropped makes room for what waits.
func TestDropMakesRoom(t *testing.T) {
	w, d := journal(1, 0, 0, 16), roomed(disc(), 16*size)
	w, d, err := commits(t, w, d)
	for round := range 50 {
		if err != api.OK || w.Sure != int64(16+8*round) || len(d.Files) != 2 {
			t.Fatalf("round %d: %+v, %s, %d", round, w, shown(d), err)
		}
		for range 8 {
			w, _ = puts(t, w, api.Cancel, [6]int64{})
		}
		if _, _, err := commits(t, w, d); err != api.ErrFull {
			t.Fatalf("round %d: %d", round, err)
		}
		if d, err = drops(t, w, d, w.Sure-8); err != api.OK {
			t.Fatalf("round %d: %d", round, err)
		}
		w, d, err = commits(t, w, d)
	}
}
