package slot_test

import (
	"bytes"
	"fmt"
	"math"
	"math/rand"
	"slices"
	"strings"
	"testing"

	"snaffle/api"
	"snaffle/disk"
	"snaffle/slot"
)

// file of a disk; all of it lasts.
func file(name string, b []byte) api.File { return api.File{Name: name, Data: b, Sure: len(b)} }

// disc is a disk with files, put into their order; it has power, and no fuse.
func disc(files ...api.File) api.Disk {
	files = slices.Clone(files)
	slices.SortFunc(files, func(a, b api.File) int { return strings.Compare(a.Name, b.Name) })
	return api.Disk{Files: files, Room: api.MaxRoom, Fuse: api.None}
}

// but is the disk with some changed.
func but(d api.Disk, change func(d *api.Disk)) api.Disk {
	change(&d)
	return d
}

func fused(d api.Disk, fuse int) api.Disk  { return but(d, func(d *api.Disk) { d.Fuse = fuse }) }
func roomed(d api.Disk, room int) api.Disk { return but(d, func(d *api.Disk) { d.Room = room }) }
func down(d api.Disk) api.Disk             { return but(d, func(d *api.Disk) { d.Down = true }) }

// shown is all that a disk is, as text: two disks are the same if it is.
func shown(d api.Disk) string {
	var b strings.Builder
	fmt.Fprintf(&b, "room %d fuse %d down %v", d.Room, d.Fuse, d.Down)
	for _, f := range d.Files {
		fmt.Fprintf(&b, " [%q %x %d]", f.Name, f.Data, f.Sure)
	}
	return b.String()
}

// roomy is a disk with room behind each of its lists, in which something stands.
func roomy(d api.Disk) api.Disk {
	files := append(slices.Clone(d.Files), file("spare", []byte{73}), file("spare", []byte{74}))
	for i, f := range files {
		files[i].Data = append(slices.Clone(f.Data), slices.Repeat([]byte{75}, 24)...)[:len(f.Data)]
	}
	d.Files = files[:len(d.Files)]
	return d
}

// wholly is a disk whose lists have all their room, copied.
func wholly(d api.Disk) api.Disk {
	d.Files = slices.Clone(d.Files[:cap(d.Files)])
	for i, f := range d.Files {
		d.Files[i].Data = slices.Clone(f.Data[:cap(f.Data)])
	}
	return d
}

// reads is Read, held to change nothing that was handed in.
func reads(t *testing.T, d api.Disk) (api.Slot, api.Errno) {
	t.Helper()
	d = roomy(d)
	was := shown(wholly(d))
	s, err := slot.Read(d)
	if shown(wholly(d)) != was {
		t.Fatalf("Read changed %s", was)
	}
	return s, err
}

// writes is Write, held to change nothing that was handed in.
func writes(t *testing.T, d api.Disk, s api.Slot) (api.Disk, api.Errno) {
	t.Helper()
	d = roomy(d)
	was := shown(wholly(d))
	is, err := slot.Write(d, s)
	if shown(wholly(d)) != was {
		t.Fatalf("Write changed %s", was)
	}
	return is, err
}

// has holds what Read tells of a disk: a slot, or none for that reason.
func has(t *testing.T, what any, d api.Disk, want api.Slot, wantErr api.Errno) {
	t.Helper()
	if s, err := reads(t, d); err != wantErr || s != want {
		t.Fatalf("%v: Read = %v, %d; want %v, %d", what, s, err, want, wantErr)
	}
}

// becomes holds what Write makes of a disk.
func becomes(t *testing.T, what any, d api.Disk, s api.Slot, want api.Disk, wantErr api.Errno) {
	t.Helper()
	if is, err := writes(t, d, s); err != wantErr || shown(is) != shown(want) {
		t.Fatalf("%v: Write of %v to %s\n = %s, %d\nwant %s, %d", what, s, shown(d), shown(is), err, shown(want), wantErr)
	}
}

// byHand is a disk with a slot written by its own operations.
func byHand(d api.Disk, s api.Slot) (api.Disk, api.Errno) {
	name := fmt.Sprintf("slot.%d", s.Gen%2)
	err := api.OK
	if slices.ContainsFunc(d.Files, func(f api.File) bool { return f.Name == name }) {
		d, err = disk.Cut(d, name, 0)
	}
	if err == api.OK {
		d, err = disk.Append(d, name, raw(s))
	}
	if err == api.OK {
		d, err = disk.Sync(d, name)
	}
	return d, err
}

// others are files that are no slot's, though some have a slot's bytes or nearly its name.
func others() []api.File {
	var l []api.File
	for _, name := range []string{"a", "log.0000000001", "slot", "slot.", "slot.00", "slot.10", "slot.2", "slot.3", "slot0", "slot1", "snap.0000000001", "tmp"} {
		l = append(l, file(name, raw(of(999, 9))))
	}
	return l
}

// places are what may stand in the file of an even Gen, and of an odd one, with the slots they tell; none tells nothing.
func places() (evens, odds map[string]api.Slot) {
	evens, odds = map[string]api.Slot{}, map[string]api.Slot{}
	for _, gen := range []int64{1, 2, 3, 4, 5, 6, 256, 257, api.MaxLsn - 1, api.MaxLsn} {
		for _, lsn := range []int64{0, 7, api.MaxLsn} {
			s, other := of(gen, lsn), api.Slot{}
			if gen%2 == 0 {
				evens[string(raw(s))], odds[string(raw(s))] = s, other
			} else {
				odds[string(raw(s))], evens[string(raw(s))] = s, other
			}
		}
	}
	for _, s := range []api.Slot{of(6, 1), of(7, 1)} {
		whole := raw(s)
		changed := bytes.Clone(whole)
		changed[15]++
		turned := bytes.Clone(whole)
		slices.Reverse(turned[16:])
		for _, b := range [][]byte{nil, whole[:19], whole[1:], append(bytes.Clone(whole), 0), append([]byte{0}, whole...), slices.Concat(whole, whole), changed, turned, make([]byte, 20)} {
			evens[string(b)], odds[string(b)] = api.Slot{}, api.Slot{}
		}
	}
	for _, s := range wrongs() {
		evens[string(raw(s))], odds[string(raw(s))] = api.Slot{}, api.Slot{}
	}
	return evens, odds
}

// P14.2: the slot of the greater Gen, of those that are right, whole, and in their file.
func TestRead(t *testing.T) {
	evens, odds := places()
	want := func(l ...api.Slot) (api.Slot, api.Errno) {
		most := api.Slot{}
		for _, s := range l {
			if s.Gen > most.Gen {
				most = s
			}
		}
		if most.Gen == 0 {
			return most, api.ErrNone
		}
		return most, api.OK
	}
	for e, even := range evens {
		s, err := want(even)
		has(t, "even", disc(file("slot.0", []byte(e))), s, err)
		has(t, "even, others", disc(append(others(), file("slot.0", []byte(e)))...), s, err)
		for o, odd := range odds {
			s, err := want(even, odd)
			has(t, fmt.Sprintf("%x, %x", e, o), disc(file("slot.0", []byte(e)), file("slot.1", []byte(o))), s, err)
		}
	}
	for o, odd := range odds {
		s, err := want(odd)
		has(t, "odd", disc(file("slot.1", []byte(o))), s, err)
	}
	has(t, "no file", disc(), api.Slot{}, api.ErrNone)
	has(t, "others alone", disc(others()...), api.Slot{}, api.ErrNone)
	has(t, "nothing", api.Disk{}, api.Slot{}, api.ErrNone)
}

// P14.2: what stands there counts, whether or not it lasts, and reading costs nothing.
func TestReadWhatDoesntLast(t *testing.T) {
	f := file("slot.1", raw(of(3, 8)))
	for f.Sure = range 21 {
		for _, fuse := range []int{api.None, 0, 1, math.MaxInt} {
			has(t, fmt.Sprint(f.Sure, fuse), fused(disc(f), fuse), of(3, 8), api.OK)
		}
	}
}

// wrongDisks aren't right, though they have a slot.
func wrongDisks() map[string]api.Disk {
	one, two := file("slot.1", raw(of(1, 0))), file("slot.0", raw(of(2, 0)))
	longer := one
	longer.Sure++
	below := one
	below.Sure = -1
	return map[string]api.Disk{
		"fuse":         fused(disc(one), -2),
		"room":         roomed(disc(one), 19),
		"no room":      roomed(disc(), -1),
		"much room":    roomed(disc(one), api.MaxRoom+1),
		"twice":        {Files: []api.File{one, one}, Room: 99},
		"turned about": {Files: []api.File{one, two}, Room: 99},
		"name":         disc(one, file("A", nil)),
		"sure":         disc(longer),
		"sure below":   disc(below),
	}
}

// P14.2, P14.3: ErrArg where the disk isn't right, ahead of ErrDown; then ErrDown, ahead of all else but that the slot
// isn't right. The disk is as it is.
func TestWrongDisks(t *testing.T) {
	for what, d := range wrongDisks() {
		for _, d := range []api.Disk{d, down(d), fused(d, -7)} {
			has(t, what, d, api.Slot{}, api.ErrArg)
			for _, s := range []api.Slot{of(1, 0), of(2, 0), of(7, 0), {}} {
				becomes(t, what, d, s, d, api.ErrArg)
			}
		}
	}
	for _, d := range []api.Disk{disc(), disc(others()...), disc(file("slot.1", raw(of(1, 5)))), fused(disc(file("slot.0", raw(of(2, 5)))), 0), roomed(disc(), 0)} {
		d = down(d)
		has(t, "down", d, api.Slot{}, api.ErrDown)
		for _, s := range []api.Slot{of(1, 0), of(2, 0), of(3, 0), of(7, 0), of(api.MaxLsn, 0)} {
			becomes(t, "down", d, s, d, api.ErrDown)
		}
		for _, s := range wrongs() {
			becomes(t, "down", d, s, d, api.ErrArg)
		}
	}
}

// P14.3: ErrArg where the slot isn't right, ahead of whether it would be the next one.
func TestWriteWrong(t *testing.T) {
	for _, d := range []api.Disk{disc(), disc(others()...), disc(file("slot.0", raw(of(6, 5)))), disc(file("slot.0", raw(of(api.MaxLsn, 5))))} {
		for _, s := range wrongs() {
			becomes(t, "wrong", d, s, d, api.ErrArg)
		}
		becomes(t, "an Lsn below 0", d, of(7, -1), d, api.ErrArg)
		becomes(t, "an Lsn above all", d, of(7, api.MaxLsn+1), d, api.ErrArg)
	}
}

// P14.3: ErrState where it isn't the next one; the first one is 1. What Lsn it has isn't asked.
func TestWriteNext(t *testing.T) {
	for _, was := range []int64{0, 1, 2, 3, 6, 7, 256, api.MaxLsn - 2, api.MaxLsn - 1, api.MaxLsn} {
		files := others()
		if was > 0 {
			files = append(files, file(slot.Name(was), raw(of(was, 50))), file(slot.Name(was+1), raw(of(max(was-1, 1), 50))))
		}
		d := disc(files...)
		for _, gen := range []int64{1, 2, 3, 4, 5, 6, 7, 8, 9, 255, 256, 257, 258, api.MaxLsn - 3, api.MaxLsn - 2, api.MaxLsn - 1, api.MaxLsn} {
			for _, lsn := range []int64{0, 1, 49, 50, 51, api.MaxLsn} {
				want, wantErr := d, api.ErrState
				if gen == was+1 {
					want, wantErr = byHand(d, of(gen, lsn))
				}
				becomes(t, was, d, of(gen, lsn), want, wantErr)
			}
		}
	}
}

// P14.3: whatever stands in the slot's file, it has its bytes alone then, and they last; all other files are as they were.
func TestWrite(t *testing.T) {
	evens, odds := places()
	for e, even := range evens {
		for o, odd := range odds {
			d := disc(append(others()[:2], file("slot.0", []byte(e)), file("slot.1", []byte(o)))...)
			s := of(max(even.Gen, odd.Gen)+1, 77)
			if s.Gen > api.MaxLsn {
				continue
			}
			want := disc(append(others()[:2], file("slot.0", []byte(e)), file("slot.1", []byte(o)))...)
			want.Files[2+s.Gen%2] = file(slot.Name(s.Gen), raw(s))
			becomes(t, "", d, s, want, api.OK)
			has(t, "written", want, s, api.OK)
		}
	}
}

// P14.3, and the chapter's example: 1 is written, then 2, then more.
func TestWriteOneBehindTheOther(t *testing.T) {
	d := roomed(disc(), 40)
	for gen := int64(1); gen <= 50; gen++ {
		is, err := writes(t, d, of(gen, gen*gen))
		if err != api.OK {
			t.Fatalf("%d: Write = %d", gen, err)
		}
		has(t, gen, is, of(gen, gen*gen), api.OK)
		d = is
		if gen == 2 && shown(d) != shown(roomed(disc(file("slot.0", raw(of(2, 4))), file("slot.1", raw(of(1, 1)))), 40)) {
			t.Errorf("1, then 2: %s", shown(d))
		}
	}
}

// P14.3: each step costs what it costs; where the power goes within one, what came ahead is there.
func TestWriteWithoutPower(t *testing.T) {
	one, two, three := file("slot.1", raw(of(1, 5))), file("slot.0", raw(of(2, 6))), raw(of(3, 7))
	unsure := api.File{Name: "slot.1", Data: three}
	for fuse, want := range []api.Disk{disc(one, two), disc(unsure, two), disc(unsure, two)} {
		becomes(t, fuse, fused(disc(one, two), fuse), of(3, 7), down(fused(want, 0)), api.ErrDown)
	}
	for fuse := 3; fuse < 6; fuse++ {
		becomes(t, fuse, fused(disc(one, two), fuse), of(3, 7), fused(disc(file("slot.1", three), two), fuse-3), api.OK)
	}
	// Where the file isn't there, nothing is cut, and that costs nothing.
	for fuse := range 2 {
		becomes(t, fuse, fused(disc(two), fuse), of(3, 7), down(fused(disc(unsure, two), 0)), api.ErrDown)
	}
	becomes(t, 2, fused(disc(two), 2), of(3, 7), fused(disc(file("slot.1", three), two), 0), api.OK)
	becomes(t, 0, fused(disc(), 0), of(1, 7), down(fused(disc(api.File{Name: "slot.1", Data: raw(of(1, 7))}), 0)), api.ErrDown)
}

// P14.3: where the disk has no room, that is told, and the file stays cut; a file that is there gives its room back.
func TestWriteWithoutRoom(t *testing.T) {
	one, two := file("slot.1", raw(of(1, 5))), file("slot.0", raw(of(2, 6)))
	short := file("slot.1", []byte("abc"))
	becomes(t, "its own room", roomed(disc(one, two), 40), of(3, 7), roomed(disc(file("slot.1", raw(of(3, 7))), two), 40), api.OK)
	becomes(t, "not its own room", roomed(disc(short, two), 39), of(3, 7), roomed(disc(file("slot.1", nil), two), 39), api.ErrFull)
	becomes(t, "not its own room, fused", fused(roomed(disc(short, two), 39), 1), of(3, 7), fused(roomed(disc(file("slot.1", nil), two), 39), 0), api.ErrFull)
	becomes(t, "no file, no room", roomed(disc(two), 39), of(3, 7), roomed(disc(two), 39), api.ErrFull)
	becomes(t, "nothing at all", api.Disk{}, of(1, 0), api.Disk{}, api.ErrFull)
	var many []api.File
	for i := range api.MaxFiles - 1 {
		many = append(many, file(fmt.Sprintf("a%02d", i), nil))
	}
	becomes(t, "64 files", disc(append(many, two)...), of(3, 7), disc(append(many, two)...), api.ErrFull)
	becomes(t, "64 files, its own", disc(append(many, one)...), of(2, 7), disc(append(many, one)...), api.ErrFull)
	becomes(t, "63 files", disc(many...), of(1, 7), disc(append(many, file("slot.1", raw(of(1, 7))))...), api.OK)
}

// P14.4: of a disk on which all lasts: whenever the power goes within Write, and whatever it leaves, Read tells what it
// told ahead, or the new slot; and what it tells then, it tells again.
func TestWhenThePowerGoes(t *testing.T) {
	evens, odds := places()
	r := rand.New(rand.NewSource(144))
	for e, even := range evens {
		for o, odd := range odds {
			if r.Intn(8) != 0 {
				continue
			}
			d := disc(file("a", []byte("abc")), file("slot.0", []byte(e)), file("slot.1", []byte(o)))
			next := of(max(even.Gen, odd.Gen)+1, r.Int63n(api.MaxLsn))
			if next.Gen > api.MaxLsn {
				continue
			}
			powerGoes(t, d, next)
		}
	}
	powerGoes(t, disc(), of(1, 3))
	powerGoes(t, disc(file("slot.0", raw(of(2, 3)))), of(3, 3))
	powerGoes(t, disc(file("slot.1", raw(of(3, 3)))), of(4, 3))
}

func powerGoes(t *testing.T, d api.Disk, next api.Slot) {
	t.Helper()
	was, wasErr := slot.Read(d)
	for fuse := 0; ; fuse++ {
		is, err := slot.Write(fused(d, fuse), next)
		if err != api.OK && (err != api.ErrDown || !is.Down) {
			t.Fatalf("fuse %d: Write = %d", fuse, err)
		}
		for keep := range 23 {
			back, _ := disk.Back(is, []int{keep}, api.None)
			s, readErr := slot.Read(back)
			old := s == was && readErr == wasErr && err != api.OK
			if fresh := s == next && readErr == api.OK; !old && !fresh {
				t.Fatalf("fuse %d, keep %d: Read = %v, %d; told ahead %v, %d; written %v, %d", fuse, keep, s, readErr, was, wasErr, next, err)
			}
			again, _ := disk.Back(back, nil, api.None)
			if now, nowErr := slot.Read(again); now != s || nowErr != readErr {
				t.Fatalf("fuse %d, keep %d: Read = %v, %d; behind it %v, %d", fuse, keep, s, readErr, now, nowErr)
			}
		}
		if err == api.OK {
			return
		}
	}
}

// P14.4: slot behind slot, the power going now and then: what counts never goes back.
func TestWalk(t *testing.T) {
	for seed := range int64(200) {
		r := rand.New(rand.NewSource(seed))
		d, was := roomed(disc(), 40+r.Intn(3)), api.Slot{}
		for range 40 {
			next := of(was.Gen+1, r.Int63n(api.MaxLsn+1))
			d.Fuse = r.Intn(7) - 1
			is, err := writes(t, d, next)
			d, _ = disk.Back(is, []int{r.Intn(24), r.Intn(24)}, api.None)
			s, readErr := reads(t, d)
			if s != next && (s != was || err == api.OK) {
				t.Fatalf("seed %d: behind %v and %v (%d) Read = %v, %d", seed, was, next, err, s, readErr)
			}
			was = s
		}
	}
}

// Rule 3 of the document: nobody changes an answer later through what was handed in to a Write that went well.
func TestWritesToItsOwn(t *testing.T) {
	d := roomy(disc(file("slot.0", raw(of(2, 6))), file("slot.1", raw(of(1, 5)))))
	is, _ := slot.Write(d, of(3, 7))
	was := shown(is)
	for _, f := range d.Files {
		clear(f.Data[:cap(f.Data)])
	}
	clear(d.Files[:cap(d.Files)])
	if shown(is) != was {
		t.Errorf("%s became %s", was, shown(is))
	}
}
