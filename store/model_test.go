package store_test

import (
	"bytes"
	"encoding/binary"
	"fmt"
	"hash/crc32"
	"math"
	"slices"
	"strings"
	"testing"

	"snaffle/api"
	"snaffle/book"
	"snaffle/disk"
	"snaffle/row"
	"snaffle/store"
)

// What the chapter says, told otherwise: names by the library's own formats, a slot's bytes by its own numbers, and a
// save as what becomes of each file, or by the disk's own operations.

const (
	most  = math.MaxInt64
	least = math.MinInt64
)

// snap is the name of a generation's file, or of none that looks like it.
func snap(gen int64) string { return fmt.Sprintf("snap.%010d", gen) }

// file of a disk; all of it lasts.
func file(name string, b []byte) api.File { return api.File{Name: name, Data: b, Sure: len(b)} }

// slotted is the file of a slot with those numbers.
func slotted(gen, lsn int64) api.File {
	b := binary.BigEndian.AppendUint64(nil, uint64(gen))
	b = binary.BigEndian.AppendUint64(b, uint64(lsn))
	return file(fmt.Sprintf("slot.%d", gen%2), binary.LittleEndian.AppendUint32(b, crc32.ChecksumIEEE(b)))
}

// kept is the file of a state of that generation.
func kept(gen int64, s api.State) api.File { return file(snap(gen), bytesOf(s)) }

// bytesOf a state that is right.
func bytesOf(s api.State) []byte {
	b, err := row.Encode(s)
	if err != api.OK {
		panic(fmt.Sprint("no state: ", s))
	}
	return b
}

// disc is a disk with files, put into their order; it has power, and no fuse.
func disc(files ...api.File) api.Disk {
	files = slices.Clone(files)
	slices.SortFunc(files, func(a, b api.File) int { return strings.Compare(a.Name, b.Name) })
	return api.Disk{Files: files, Room: api.MaxRoom, Fuse: api.None}
}

// but is the disk with some changed.
func but(d api.Disk, change func(d *api.Disk)) api.Disk {
	change(&d)
	return d
}

func fused(d api.Disk, fuse int) api.Disk  { return but(d, func(d *api.Disk) { d.Fuse = fuse }) }
func roomed(d api.Disk, room int) api.Disk { return but(d, func(d *api.Disk) { d.Room = room }) }
func down(d api.Disk) api.Disk             { return but(d, func(d *api.Disk) { d.Down = true }) }

// shown is all that a disk is, as text: two disks are the same if it is.
func shown(d api.Disk) string {
	var b strings.Builder
	fmt.Fprintf(&b, "room %d fuse %d down %v", d.Room, d.Fuse, d.Down)
	for _, f := range d.Files {
		fmt.Fprintf(&b, " [%q %x %d]", f.Name, f.Data, f.Sure)
	}
	return b.String()
}

// roomy is a disk with room behind each of its lists, in which something stands.
func roomy(d api.Disk) api.Disk {
	files := append(slices.Clone(d.Files), file("spare", []byte{73}), file("spare", []byte{74}))
	for i, f := range files {
		files[i].Data = append(slices.Clone(f.Data), slices.Repeat([]byte{75}, 300)...)[:len(f.Data)]
	}
	d.Files = files[:len(d.Files)]
	return d
}

// wholly is a disk whose lists have all their room, copied.
func wholly(d api.Disk) api.Disk {
	d.Files = slices.Clone(d.Files[:cap(d.Files)])
	for i, f := range d.Files {
		d.Files[i].Data = slices.Clone(f.Data[:cap(f.Data)])
	}
	return d
}

// told is all that a state is, as text.
func told(s api.State) string { return fmt.Sprintf("%+v", s) }

// roomyState is a state with room behind each of its lists, in which something stands.
func roomyState(s api.State) api.State {
	s.Orders = append(slices.Clone(s.Orders), api.Order{Id: 71})[:len(s.Orders)]
	s.Cells = append(slices.Clone(s.Cells), api.Cell{Pos: 72})[:len(s.Cells)]
	s.Limits = append(slices.Clone(s.Limits), api.Expo{Long: 73})[:len(s.Limits)]
	s.Caps = append(slices.Clone(s.Caps), 74)[:len(s.Caps)]
	return s
}

// whollyState is a state whose lists have all their room.
func whollyState(s api.State) api.State {
	s.Orders, s.Cells = s.Orders[:cap(s.Orders)], s.Cells[:cap(s.Cells)]
	s.Limits, s.Caps = s.Limits[:cap(s.Limits)], s.Caps[:cap(s.Caps)]
	return s
}

// saves is Save, held to change nothing that was handed in.
func saves(t *testing.T, d api.Disk, s api.State) (api.Disk, int64, api.Errno) {
	t.Helper()
	d, s = roomy(d), roomyState(s)
	was, wasState := shown(wholly(d)), told(whollyState(s))
	is, gen, err := store.Save(d, s)
	if shown(wholly(d)) != was || told(whollyState(s)) != wasState {
		t.Fatalf("Save changed %s or %s", was, wasState)
	}
	return is, gen, err
}

// loads is Load, held to change nothing that was handed in.
func loads(t *testing.T, d api.Disk) (api.State, int64, api.Errno) {
	t.Helper()
	d = roomy(d)
	was := shown(wholly(d))
	s, gen, err := store.Load(d)
	if shown(wholly(d)) != was {
		t.Fatalf("Load changed %s", was)
	}
	return s, gen, err
}

// becomes holds what Save makes of a disk.
func becomes(t *testing.T, what any, d api.Disk, s api.State, want api.Disk, wantGen int64, wantErr api.Errno) {
	t.Helper()
	is, gen, err := saves(t, d, s)
	if err != wantErr || gen != wantGen || shown(is) != shown(want) {
		t.Fatalf("%v: Save to %s\n = %s, %d, %d\nwant %s, %d, %d", what, shown(d), shown(is), gen, err, shown(want), wantGen, wantErr)
	}
}

// has holds what Load tells of a disk.
func has(t *testing.T, what any, d api.Disk, want api.State, wantGen int64, wantErr api.Errno) {
	t.Helper()
	s, gen, err := loads(t, d)
	if err != wantErr || gen != wantGen || !row.Same(s, want) {
		t.Fatalf("%v: Load of %s = %+v, %d, %d; want %+v, %d, %d", what, shown(d), s, gen, err, want, wantGen, wantErr)
	}
}

// hasNone holds that Load tells no state of a disk, for that reason.
func hasNone(t *testing.T, what any, d api.Disk, want api.Errno) {
	t.Helper()
	has(t, what, d, api.State{}, 0, want)
}

// generation of a file of that name; 0: it is none's.
func generation(name string) int64 {
	var gen int64
	if _, err := fmt.Sscanf(name, "snap.%d", &gen); err != nil || gen < 1 || gen > 1000000000 || snap(gen) != name {
		return 0
	}
	return gen
}

// saved is a disk on which a state is kept as that generation, when nothing goes wrong: what becomes of each file.
func saved(d api.Disk, gen int64, s api.State) api.Disk {
	files := []api.File{kept(gen, s), slotted(gen, s.Lsn)}
	for _, f := range d.Files {
		if f.Name != "tmp" && generation(f.Name) == 0 && f.Name != files[1].Name {
			files = append(files, f)
		}
	}
	is := disc(files...)
	is.Room, is.Fuse = d.Room, d.Fuse
	return is
}

// byHand is a disk on which a state is kept as that generation, by the disk's own operations.
func byHand(d api.Disk, gen int64, s api.State) (api.Disk, api.Errno) {
	err := api.OK
	do := func(operation func() (api.Disk, api.Errno)) {
		if err == api.OK {
			d, err = operation()
		}
	}
	isThere := func(name string) bool {
		return slices.ContainsFunc(d.Files, func(f api.File) bool { return f.Name == name })
	}
	if isThere("tmp") {
		do(func() (api.Disk, api.Errno) { return disk.Remove(d, "tmp") })
	}
	do(func() (api.Disk, api.Errno) { return disk.Append(d, "tmp", bytesOf(s)) })
	do(func() (api.Disk, api.Errno) { return disk.Sync(d, "tmp") })
	do(func() (api.Disk, api.Errno) { return disk.Rename(d, "tmp", snap(gen)) })
	f := slotted(gen, s.Lsn)
	if isThere(f.Name) {
		do(func() (api.Disk, api.Errno) { return disk.Cut(d, f.Name, 0) })
	}
	do(func() (api.Disk, api.Errno) { return disk.Append(d, f.Name, f.Data) })
	do(func() (api.Disk, api.Errno) { return disk.Sync(d, f.Name) })
	for _, f := range slices.Clone(d.Files) {
		if other := generation(f.Name); other != 0 && other != gen {
			do(func() (api.Disk, api.Errno) { return disk.Remove(d, f.Name) })
		}
	}
	return d, err
}

// others are files that a save lets be, though some have nearly the name of one that it doesn't.
func others() []api.File {
	var l []api.File
	for _, name := range []string{
		"a", "log.0000000001", "sna.0000000001", "snap", "snap.", "snap.0", "snap.000000001", "snap.0000000000", "snap.00000000001",
		"snap.000000001.", "snap.00000001.0", "snap.0000000a01", "snap.000000x001", "snap.1000000001", "snap.2000000000",
		"snap.9999999999", "snap.a000000001", "snap..000000001", "snap0000000001", "snap1", "snaps.0000000001", "snip.0000000001",
		"slot", "slot.", "slot.00", "slot.2", "slot.tmp", "t", "tm", "tmp.", "tmp.0", "tmp0", "tmpp", "z.snap.000000001",
	} {
		l = append(l, file(name, []byte(name)))
	}
	return l
}

// begun is a state of one account and symbol in which nothing was done; it has 76 bytes.
func begun(t *testing.T) api.State {
	t.Helper()
	return state(t, 1, 1)
}

// state of so many accounts and symbols, to which records were done.
func state(t *testing.T, accounts, symbols int, l ...api.Rec) api.State {
	t.Helper()
	s, err := book.New(accounts, symbols, api.Expo{Long: 900, Short: 800, Open: 70000}, 60000)
	for _, r := range l {
		if err == api.OK {
			s, err = book.Do(s, r)
		}
	}
	if err != api.OK {
		t.Fatal("no state:", err)
	}
	return s
}

// busy is a state of two accounts and three symbols with two orders, and something had.
func busy(t *testing.T) api.State {
	t.Helper()
	return state(t, 2, 3,
		api.Rec{Kind: api.New, Order: 3, Side: api.Buy, Qty: 10, Price: 3},
		api.Rec{Kind: api.New, Order: 8, Account: 1, Symbol: 2, Side: api.Sell, Qty: 7, Price: 5},
		api.Rec{Kind: api.Event, Seq: 1, What: api.Ack, Order: 3},
		api.Rec{Kind: api.Event, Seq: 2, What: api.Fill, Order: 3, Qty: 4},
		api.Rec{Kind: api.Cancel, Order: 8},
		api.Rec{Kind: api.Kill, On: true},
	)
}

// full is a state with as many accounts, symbols and orders as there may be, and with the greatest Lsn.
func full(t *testing.T) api.State {
	t.Helper()
	var l []api.Rec
	for i := range api.MaxOrders {
		l = append(l, api.Rec{Kind: api.New, Order: int64(i + 1), Account: i % 8, Symbol: i / 8, Side: api.Buy, Qty: int64(i + 1), Price: 9})
	}
	s := state(t, 8, 8, l...)
	s.Lsn = api.MaxLsn
	return s
}

// wrongStates are none that are right, by one thing each.
func wrongStates(t *testing.T) map[string]api.State {
	t.Helper()
	with := func(change func(s *api.State)) api.State {
		s := busy(t)
		change(&s)
		return s
	}
	return map[string]api.State{
		"nothing":       {},
		"accounts":      with(func(s *api.State) { s.Accounts = 9 }),
		"symbols":       with(func(s *api.State) { s.Symbols = 0 }),
		"an order less": with(func(s *api.State) { s.Orders = s.Orders[1:] }),
		"turned about":  with(func(s *api.State) { slices.Reverse(s.Orders) }),
		"a cell less":   with(func(s *api.State) { s.Cells = s.Cells[1:] }),
		"another cell":  with(func(s *api.State) { s.Cells[0].Buy++ }),
		"a cap below 0": with(func(s *api.State) { s.Caps[1] = -1 }),
		"a cap more":    with(func(s *api.State) { s.Caps = append(s.Caps, 5) }),
		"last":          with(func(s *api.State) { s.Last = 7 }),
		"lsn below 0":   with(func(s *api.State) { s.Lsn = -1 }),
		"lsn above all": with(func(s *api.State) { s.Lsn = api.MaxLsn + 1 }),
		"seq above all": with(func(s *api.State) { s.Seq = api.MaxLsn + 1 }),
	}
}

// wrongDisks aren't right, though all that a state needs is there.
func wrongDisks(t *testing.T) map[string]api.Disk {
	t.Helper()
	s := begun(t)
	one, two := slotted(1, s.Lsn), kept(1, s)
	longer, below := one, one
	longer.Sure++
	below.Sure = -1
	return map[string]api.Disk{
		"fuse":         fused(disc(one, two), -2),
		"room":         roomed(disc(one, two), len(one.Data)+len(two.Data)-1),
		"no room":      roomed(disc(), -1),
		"much room":    roomed(disc(one, two), api.MaxRoom+1),
		"twice":        {Files: []api.File{one, two, two}, Room: 999},
		"turned about": {Files: []api.File{two, one}, Room: 999},
		"name":         disc(one, two, file("A", nil)),
		"long name":    disc(one, two, file("snap.000000000001", nil)),
		"sure":         disc(longer, two),
		"sure below":   disc(below, two),
		"65 files":     disc(append(many(63), one, two)...),
	}
}

// many are so many files without bytes.
func many(n int) []api.File {
	var l []api.File
	for i := range n {
		l = append(l, file(fmt.Sprintf("a%02d", i), nil))
	}
	return l
}

// spoilt are bytes that are no state's, though each has something of one's.
func spoilt(s api.State) map[string][]byte {
	whole := bytesOf(s)
	changed, summed := bytes.Clone(whole), bytes.Clone(whole)
	changed[9]++
	summed[len(summed)-1]++
	wrong := bytes.Clone(whole[:len(whole)-4])
	wrong[6] = 2 // the switch, which is on or not
	wrong = binary.LittleEndian.AppendUint32(wrong, crc32.ChecksumIEEE(wrong))
	return map[string][]byte{
		"nothing":    nil,
		"short":      whole[:len(whole)-1],
		"shorter":    whole[:35],
		"long":       append(bytes.Clone(whole), 0),
		"twice":      slices.Concat(whole, whole),
		"late":       append([]byte{0}, whole...),
		"changed":    changed,
		"sum":        summed,
		"none of it": wrong,
		"text":       []byte("nothing of a state"),
	}
}
