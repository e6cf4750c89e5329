package wal

import (
	"snaffle/api"
	"snaffle/disk"
	"snaffle/scan"
)

// opens: what stands against a disk's journal being opened, as far as its frames aren't asked.
func opens(d api.Disk, base int64) api.Errno {
	if !disk.Right(d) || base < 0 || base >= api.MaxLsn {
		return api.ErrArg
	}
	if d.Down {
		return api.ErrDown
	}
	if l := Segments(d); len(l) > 0 && l[0] > base+1 {
		return api.ErrGap
	}
	return api.OK
}

// read are a disk's frames that count, and the journal that goes on behind them in the last segment that has some;
// no journal, if none has. The disk may have more behind that segment, and within it.
func read(d api.Disk) (api.Wal, []api.Frame) {
	var w api.Wal
	var all []api.Frame
	epoch := int64(1)
	for _, lsn := range Segments(d) {
		if w.Seg != 0 && lsn != w.Next {
			break
		}
		b := held(d, lsn)
		l, many := scan.Scan(b[:min(len(b), api.SegFrames*api.FrameSize)], lsn, epoch)
		if len(l) == 0 {
			break
		}
		all = append(all, l...)
		last := l[len(l)-1]
		// No frame's epoch is greater than the last one's, since they are in a row.
		epoch = last.Epoch
		w = api.Wal{Epoch: epoch + 1, Next: last.Lsn + 1, Sure: last.Lsn, Seg: lsn, Count: len(l)}
		if many < len(b) {
			break
		}
	}
	return w, all
}

// mended is a disk on which there is nothing of a journal behind what was read of it.
func mended(d api.Disk, w api.Wal) (api.Disk, api.Errno) {
	d, err := removed(d, w.Seg)
	many := w.Count * api.FrameSize
	// What is whole isn't cut: that would cost an operation.
	if err == api.OK && len(held(d, w.Seg)) > many {
		d, err = disk.Cut(d, Name(w.Seg), many)
	}
	return d, err
}

// below a number: tells which frames are.
func below(lsn int64) func(f api.Frame) bool {
	return func(f api.Frame) bool { return f.Lsn < lsn }
}
