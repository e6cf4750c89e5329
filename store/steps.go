package store

import (
	"strconv"
	"strings"

	"snaffle/api"
	"snaffle/disk"
	"snaffle/slot"
)

// draft is the file in which a state's bytes stand till all of them last.
const draft = "tmp"

// step of a disk, made for what it does; what it is done to comes later.
type step func(d api.Disk) (api.Disk, api.Errno)

// next generation of a disk.
func next(d api.Disk) (int64, api.Errno) {
	was, err := slot.Read(d)
	if err != api.OK && err != api.ErrNone {
		return 0, err
	}
	if was.Gen == api.MaxLsn {
		return 0, api.ErrOver
	}
	// Where there is none, Gen is 0: the first one is 1.
	return was.Gen + 1, api.OK
}

// steps by which a state's bytes are kept on a disk, as what the slot tells. What is to be removed is known ahead: no
// step makes another file of these names but the slot's own generation's.
func steps(d api.Disk, b []byte, s api.Slot) []step {
	var l []step
	if there(d, draft) {
		l = append(l, removes(draft))
	}
	l = append(l, appends(draft, b), syncs(draft), renames(draft, Name(s.Gen)), counts(s))
	for _, f := range d.Files {
		if gen := generation(f.Name); gen != 0 && gen != s.Gen {
			l = append(l, removes(f.Name))
		}
	}
	return l
}

// removes a file.
func removes(name string) step {
	return func(d api.Disk) (api.Disk, api.Errno) { return disk.Remove(d, name) }
}

// appends bytes to a file.
func appends(name string, b []byte) step {
	return func(d api.Disk) (api.Disk, api.Errno) { return disk.Append(d, name, b) }
}

// syncs a file.
func syncs(name string) step {
	return func(d api.Disk) (api.Disk, api.Errno) { return disk.Sync(d, name) }
}

// renames a file.
func renames(from, to string) step {
	return func(d api.Disk) (api.Disk, api.Errno) { return disk.Rename(d, from, to) }
}

// counts makes the slot's generation the one that counts.
func counts(s api.Slot) step {
	return func(d api.Disk) (api.Disk, api.Errno) { return slot.Write(d, s) }
}

// there is a file of that name?
func there(d api.Disk, name string) bool {
	_, err := disk.Read(d, name)
	return err == api.OK
}

// generation whose file has that name; 0: it is none's.
func generation(name string) int64 {
	gen, err := strconv.ParseInt(strings.TrimPrefix(name, ahead), 10, 64)
	if err != nil || Name(gen) != name {
		return 0
	}
	return gen
}
