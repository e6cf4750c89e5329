package wal

import (
	"iter"
	"slices"
	"strconv"
	"strings"

	"snaffle/api"
	"snaffle/disk"
)

// How a segment is named: its first record's number, in so many digits, behind these signs.
const (
	ahead  = "log."
	digits = 10
)

// Name of a segment.
func Name(lsn int64) string {
	if lsn < 1 || lsn > api.MaxLsn {
		return ""
	}
	number := strconv.FormatInt(lsn, 10)
	return ahead + strings.Repeat("0", digits-len(number)) + number
}

// Segments of a disk.
func Segments(d api.Disk) []int64 {
	if !disk.Right(d) {
		return nil
	}
	// They rise, since the files' names do, and all numbers have as many digits.
	var l []int64
	for _, f := range d.Files {
		if lsn := numberOf(f.Name); lsn != 0 {
			l = append(l, lsn)
		}
	}
	return l
}

// numberOf a segment of that name; 0: it is none's.
func numberOf(name string) int64 {
	number, err := strconv.ParseInt(strings.TrimPrefix(name, ahead), 10, 64)
	if err != nil || Name(number) != name {
		return 0
	}
	return number
}

// held are a segment's bytes on a disk; none, if it isn't there. They are asked for without power, too, so not by
// disk.Read.
func held(d api.Disk, lsn int64) []byte {
	name := Name(lsn)
	i := slices.IndexFunc(d.Files, func(f api.File) bool { return f.Name == name })
	if i < 0 {
		return nil
	}
	return d.Files[i].Data
}

// fromLast on are those of rising numbers that are above one.
func fromLast(l []int64, above int64) iter.Seq[int64] {
	return func(yield func(int64) bool) {
		for i := len(l) - 1; i >= 0 && l[i] > above; i-- {
			if !yield(l[i]) {
				return
			}
		}
	}
}

// removed are the segments above a number. The last one goes first, since so, wherever the power goes, those that are
// left are still the first ones of a journal.
func removed(d api.Disk, above int64) (api.Disk, api.Errno) {
	for lsn := range fromLast(Segments(d), above) {
		var err api.Errno
		if d, err = disk.Remove(d, Name(lsn)); err != api.OK {
			return d, err
		}
	}
	return d, api.OK
}
