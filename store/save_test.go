package store_test

import (
	"fmt"
	"slices"
	"testing"

	"snaffle/api"
	"snaffle/store"
)

// P15.1: the file of a generation, in ten digits; nothing of what is none.
func TestName(t *testing.T) {
	for gen, want := range map[int64]string{
		1: "snap.0000000001", 2: "snap.0000000002", 9: "snap.0000000009", 10: "snap.0000000010", 12: "snap.0000000012",
		99999: "snap.0000099999", 123456789: "snap.0123456789", api.MaxLsn - 1: "snap.0999999999", api.MaxLsn: "snap.1000000000",
		0: "", -1: "", -12: "", api.MaxLsn + 1: "", 9999999999: "", 10000000000: "", 1<<32 + 1: "", most: "", least: "", least + 1: "",
	} {
		if got := store.Name(gen); got != want {
			t.Errorf("Name(%d) = %q; want %q", gen, got, want)
		}
	}
}

// The chapter's example: two states are saved, and of the first one only its slot is there.
func TestTwoStates(t *testing.T) {
	d, gen, err := saves(t, disc(), begun(t))
	if err != api.OK || gen != 1 {
		t.Fatalf("Save = %d, %d", gen, err)
	}
	d, gen, err = saves(t, d, busy(t))
	if err != api.OK || gen != 2 {
		t.Fatalf("Save = %d, %d", gen, err)
	}
	want := disc(slotted(1, 0), kept(2, busy(t)), slotted(2, 6))
	if shown(d) != shown(want) {
		t.Errorf("two states saved: %s; want %s", shown(d), shown(want))
	}
	has(t, "the second", d, busy(t), 2, api.OK)
}

// grounds are disks on which all lasts, with the generation that is next on each.
func grounds(t *testing.T) map[string]struct {
	d    api.Disk
	next int64
} {
	t.Helper()
	type ground = struct {
		d    api.Disk
		next int64
	}
	s, u := begun(t), busy(t)
	tmp, empty := file("tmp", []byte("what was there")), file("tmp", nil)
	return map[string]ground{
		"nothing":              {disc(), 1},
		"others":               {disc(others()...), 1},
		"tmp":                  {disc(tmp), 1},
		"tmp without bytes":    {disc(empty), 1},
		"others, tmp":          {disc(append(others(), tmp)...), 1},
		"generations, no slot": {disc(kept(1, u), kept(2, s), kept(7, u)), 1},
		"the next one is there": {disc(slotted(1, 0), kept(1, s),
			file(snap(2), []byte("something")), file("tmp", bytesOf(u))), 2},
		"one":            {disc(slotted(1, 0), kept(1, s)), 2},
		"two":            {disc(slotted(1, 0), slotted(2, 6), kept(2, u)), 3},
		"one, others":    {disc(append(others(), slotted(1, 0), kept(1, s))...), 2},
		"the odd alone":  {disc(slotted(7, 6), kept(7, u)), 8},
		"the even alone": {disc(slotted(8, 6), kept(8, u)), 9},
		"no file of the slot's": {disc(slotted(4, 6), slotted(3, 0),
			kept(3, u), kept(5, s)), 5},
		"another Lsn":     {disc(slotted(4, 5), kept(4, u)), 5},
		"a slot in words": {disc(slotted(4, 6), kept(4, u), file("slot.1", []byte("a slot in words, and more than 20 of them"))), 5},
		"an empty slot":   {disc(slotted(4, 6), kept(4, u), file("slot.1", nil)), 5},
		"a spoilt slot":   {disc(slotted(3, 0), kept(3, s), file("slot.0", slotted(4, 6).Data[:19])), 4},
		"the wrong place": {disc(slotted(3, 0), kept(3, s), file("slot.0", slotted(9, 6).Data)), 4},
		"many generations": {disc(slotted(500, 6), slotted(499, 0), tmp, kept(1, s), kept(2, u), kept(10, s), kept(499, s), kept(500, u),
			file(snap(501), nil), kept(502, s), kept(503, u), file(snap(99999), []byte("a")), file(snap(api.MaxLsn), []byte("b"))), 501},
		"the last but one": {disc(slotted(api.MaxLsn-2, 0), slotted(api.MaxLsn-1, 6), kept(api.MaxLsn-1, u), kept(1, s)), api.MaxLsn},
	}
}

// P15.2: the state is kept, and lasts, as the next generation; the slot tells it, and its Lsn; tmp and all other
// generations' files are gone; all other files are as they were. P15.3: it is loaded then.
func TestSave(t *testing.T) {
	for what, g := range grounds(t) {
		for _, s := range []api.State{begun(t), busy(t), full(t)} {
			want := saved(g.d, g.next, s)
			becomes(t, what, g.d, s, want, g.next, api.OK)
			has(t, what, want, s, g.next, api.OK)
		}
	}
}

// P15.2: whether or not the files' bytes last changes nothing but of those that are let be.
func TestSaveWhatDoesntLast(t *testing.T) {
	s, u := begun(t), busy(t)
	d := disc(slotted(1, 0), kept(1, s), kept(2, u), file("tmp", bytesOf(s)), file("a", []byte("abc")))
	for i := range d.Files {
		d.Files[i].Sure /= 2
	}
	want := disc(d.Files[0], slotted(2, 6), d.Files[1], kept(2, u))
	becomes(t, "", d, u, want, 2, api.OK)
}

// P15.2: one behind the other, on a disk that has room for two slots and two states, and no more.
func TestSaveOneBehindTheOther(t *testing.T) {
	l := []api.State{begun(t), busy(t), begun(t)}
	d := roomed(disc(file("a", []byte("abc"))), 3+2*20+len(bytesOf(l[0]))+len(bytesOf(l[1])))
	for gen := int64(1); gen <= 40; gen++ {
		s := l[gen%3]
		s.Lsn = gen * gen
		is, got, err := saves(t, d, s)
		if err != api.OK || got != gen || shown(is) != shown(saved(d, gen, s)) {
			t.Fatalf("%d: Save = %s, %d, %d", gen, shown(is), got, err)
		}
		has(t, gen, is, s, gen, api.OK)
		d = is
	}
}

// P15.2: the steps in their order, each of which costs what it costs: where the power goes within one, what came ahead
// is there, and nothing of what comes behind it.
func TestSaveWithoutPower(t *testing.T) {
	for what, g := range grounds(t) {
		s := busy(t)
		for fuse := 0; ; fuse++ {
			want, err := byHand(fused(g.d, fuse), g.next, s)
			gen := int64(0)
			if err == api.OK {
				gen = g.next
			}
			becomes(t, fmt.Sprint(what, ", ", fuse), fused(g.d, fuse), s, want, gen, err)
			if err == api.OK {
				becomes(t, what, fused(g.d, fuse+5), s, fused(want, 5), gen, api.OK)
				break
			}
		}
	}
}

// P15.2: the same, told by name of one disk, with what each step has done.
func TestSaveStepByStep(t *testing.T) {
	s, u := begun(t), busy(t)
	tmp, one, two := file("tmp", []byte("old")), kept(1, s), kept(2, u)
	first, second, late := slotted(1, 0), slotted(2, 6), kept(9, s)
	d := disc(first, one, late, tmp)
	unsure := func(f api.File) api.File {
		f.Sure = 0
		return f
	}
	draft := file("tmp", bytesOf(u))
	for fuse, want := range []api.Disk{
		disc(first, one, late, tmp),
		disc(first, one, late, unsure(draft)),
		disc(first, one, late, unsure(draft)),
		disc(first, one, late, draft),
		disc(first, one, late, two, unsure(second)),
		disc(first, one, late, two, unsure(second)),
		disc(first, one, late, two, second),
		disc(first, late, two, second),
	} {
		becomes(t, fuse, fused(d, fuse), u, down(fused(want, 0)), 0, api.ErrDown)
	}
	becomes(t, 8, fused(d, 8), u, fused(disc(first, two, second), 0), 2, api.OK)
	// Where tmp isn't there, nothing is removed, and that costs nothing.
	becomes(t, "no tmp", fused(disc(), 0), s, down(fused(disc(api.File{Name: "tmp", Data: bytesOf(s)}), 0)), 0, api.ErrDown)
	becomes(t, "no tmp", fused(disc(), 5), s, fused(disc(one, first), 0), 1, api.OK)
}

// P15.2: ErrArg where the disk isn't right, or the state isn't, ahead of ErrDown; the disk is as it is.
func TestSaveWrong(t *testing.T) {
	for what, d := range wrongDisks(t) {
		for _, d := range []api.Disk{d, down(d), fused(d, -7)} {
			becomes(t, what, d, busy(t), d, 0, api.ErrArg)
			becomes(t, what, d, api.State{}, d, 0, api.ErrArg)
		}
	}
	for what, s := range wrongStates(t) {
		for _, g := range grounds(t) {
			for _, d := range []api.Disk{g.d, down(g.d), fused(g.d, 0), down(disc(slotted(api.MaxLsn, 0)))} {
				becomes(t, what, d, s, d, 0, api.ErrArg)
			}
		}
	}
}

// P15.2: ErrDown without power, ahead of ErrOver; ErrOver where the generation would be above all, ahead of what the disk
// would tell. The disk is as it is, tmp too.
func TestSaveDownAndOver(t *testing.T) {
	s := busy(t)
	for what, g := range grounds(t) {
		becomes(t, what, down(g.d), s, down(g.d), 0, api.ErrDown)
		becomes(t, what, down(fused(g.d, 0)), s, down(fused(g.d, 0)), 0, api.ErrDown)
	}
	last := disc(append(others(), slotted(api.MaxLsn, 6), kept(api.MaxLsn, s), kept(3, s), file("tmp", []byte("abc")))...)
	for _, d := range []api.Disk{last, fused(last, 0), fused(last, 3), disc(slotted(api.MaxLsn, 6)), roomed(disc(slotted(api.MaxLsn, 6)), 20)} {
		becomes(t, "over", d, s, d, 0, api.ErrOver)
		becomes(t, "down", down(d), s, down(d), 0, api.ErrDown)
	}
	has(t, "over", last, s, api.MaxLsn, api.OK)
}

// P15.2: where the disk has no room, that is told, and what came ahead is done: tmp is gone, or has its name already.
func TestSaveWithoutRoom(t *testing.T) {
	s, u := begun(t), busy(t)
	size := len(bytesOf(u))
	tmp, old, first := file("tmp", make([]byte, 50)), kept(1, s), slotted(1, 0)
	d := disc(first, old, tmp)
	short := 20 + 76 + size - 1
	becomes(t, "the state", roomed(d, short), u, roomed(disc(first, old), short), 0, api.ErrFull)
	becomes(t, "the state, fused", fused(roomed(d, short), 1), u, fused(roomed(disc(first, old), short), 0), 0, api.ErrFull)
	becomes(t, "the state, fused at once", fused(roomed(d, short), 0), u, down(fused(roomed(d, short), 0)), 0, api.ErrDown)
	for room := short + 1; room <= short+20; room++ {
		becomes(t, "the slot", roomed(d, room), u, roomed(disc(first, old, kept(2, u)), room), 0, api.ErrFull)
		has(t, "the slot", roomed(disc(first, old, kept(2, u)), room), s, 1, api.OK)
	}
	becomes(t, "all", roomed(d, short+21), u, roomed(disc(first, slotted(2, 6), kept(2, u)), short+21), 2, api.OK)
	becomes(t, "tmp gives its room", roomed(disc(file("tmp", make([]byte, 96))), 96), s, roomed(disc(first, old), 96), 1, api.OK)
	becomes(t, "no room", api.Disk{}, s, api.Disk{}, 0, api.ErrFull)
}

// P15.2: so where it would have too many files: tmp is one, and the slot's is one more.
func TestSaveWithManyFiles(t *testing.T) {
	s := begun(t)
	full := disc(many(api.MaxFiles)...)
	becomes(t, "64 files", full, s, full, 0, api.ErrFull)
	becomes(t, "63 files", disc(many(63)...), s, disc(append(many(63), kept(1, s))...), 0, api.ErrFull)
	becomes(t, "63 files and tmp", disc(append(many(63), file("tmp", nil))...), s, disc(append(many(63), kept(1, s))...), 0, api.ErrFull)
	becomes(t, "62 files", disc(many(62)...), s, disc(append(many(62), kept(1, s), slotted(1, 0))...), 1, api.OK)
	// Other generations' files go behind all that, the next one's ahead of the slot.
	d := disc(append(many(62), slotted(1, 0), kept(1, s))...)
	becomes(t, "62 and a state", d, s, d, 0, api.ErrFull)
	d = disc(append(many(61), slotted(1, 0), kept(1, s))...)
	becomes(t, "61 and a state", d, s, disc(append(many(61), slotted(1, 0), kept(1, s), kept(2, s))...), 0, api.ErrFull)
	d = disc(append(many(60), slotted(1, 0), kept(1, s), file(snap(2), nil))...)
	becomes(t, "60, a state, and the next one's", d, s, disc(append(many(60), slotted(1, 0), slotted(2, 0), kept(2, s))...), 2, api.OK)
}

// Rule 3 of the document: an answer is new memory: nobody changes it later through what was handed in, nor the other way.
func TestSavesToItsOwn(t *testing.T) {
	for what, g := range grounds(t) {
		d, s := roomy(g.d), roomyState(busy(t))
		is, _, _ := store.Save(d, s)
		was := shown(is)
		for _, f := range d.Files {
			clear(f.Data[:cap(f.Data)])
		}
		clear(d.Files[:cap(d.Files)])
		clear(s.Orders[:cap(s.Orders)])
		clear(s.Cells[:cap(s.Cells)])
		if shown(is) != was {
			t.Errorf("%s: %s became %s", what, was, shown(is))
		}
		again, _, _ := store.Save(roomy(g.d), roomyState(busy(t)))
		if shown(again) != was {
			t.Errorf("%s: %s, and then %s", what, was, shown(again))
		}
	}
}

// Rule 1 of the document: any disk and state end, and nothing panics.
func TestAny(t *testing.T) {
	bad := api.Disk{Files: []api.File{{Sure: most}, {Name: "tmp", Sure: least}}, Room: most, Fuse: least, Down: true}
	wild := api.State{Accounts: most, Symbols: most, Last: least, Seq: most, Lsn: least}
	low := api.State{Accounts: least, Symbols: -1, Orders: make([]api.Order, 100), Lsn: most}
	for _, d := range []api.Disk{{}, bad, disc(), down(disc()), {Files: make([]api.File, 70)}} {
		for _, s := range []api.State{{}, wild, low} {
			becomes(t, "any", d, s, d, 0, api.ErrArg)
		}
	}
	hasNone(t, "any", bad, api.ErrArg)
	hasNone(t, "any", api.Disk{Files: make([]api.File, 70)}, api.ErrArg)
}

// Two disks are told apart by what shown tells of them; so these tests would fail if anything were otherwise.
func TestShown(t *testing.T) {
	d := disc(file("a", []byte{1}))
	all := []string{
		shown(d), shown(down(d)), shown(fused(d, 1)), shown(roomed(d, 5)), shown(disc()), shown(disc(file("b", []byte{1}))),
		shown(disc(file("a", []byte{2}))), shown(disc(api.File{Name: "a", Data: []byte{1}})),
	}
	slices.Sort(all)
	if len(slices.Compact(all)) != 8 {
		t.Error(all)
	}
}
