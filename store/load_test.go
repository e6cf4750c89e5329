package store_test

import (
	"fmt"
	"math/rand"
	"slices"
	"strings"
	"testing"

	"snaffle/api"
	"snaffle/book"
	"snaffle/disk"
	"snaffle/row"
	"snaffle/store"
)

// P15.3: the state in the file of the slot's Gen, with that generation; no other file counts, and reading costs nothing.
func TestLoad(t *testing.T) {
	for _, s := range []api.State{begun(t), busy(t), full(t)} {
		for _, gen := range []int64{1, 2, 3, 10, 99999, api.MaxLsn - 1, api.MaxLsn} {
			older := slotted(max(gen-1, 1), s.Lsn)
			l := []api.File{slotted(gen, s.Lsn), kept(gen, s)}
			more := append(slices.Clone(l), others()...)
			for _, f := range []api.File{kept(max(gen-1, 1), begun(t)), kept(min(gen+1, api.MaxLsn), busy(t)), kept(77, begun(t)), older, file("tmp", bytesOf(busy(t)))} {
				if !slices.ContainsFunc(more, func(g api.File) bool { return g.Name == f.Name }) {
					more = append(more, f)
				}
			}
			for _, fuse := range []int{api.None, 0, 1, 100} {
				has(t, gen, fused(disc(l...), fuse), s, gen, api.OK)
				has(t, gen, fused(disc(more...), fuse), s, gen, api.OK)
			}
		}
	}
}

// P15.3: what stands there counts, whether or not it lasts.
func TestLoadWhatDoesntLast(t *testing.T) {
	s := busy(t)
	d := disc(slotted(1, s.Lsn), kept(1, s))
	for i := range d.Files {
		d.Files[i].Sure = 0
	}
	has(t, "", d, s, 1, api.OK)
}

// P15.3: ErrArg where the disk isn't right, ahead of ErrDown; ErrDown ahead of all else.
func TestLoadWrong(t *testing.T) {
	for what, d := range wrongDisks(t) {
		hasNone(t, what, d, api.ErrArg)
		hasNone(t, what, down(d), api.ErrArg)
	}
	for what, g := range grounds(t) {
		hasNone(t, what, down(g.d), api.ErrDown)
	}
	hasNone(t, "a spoilt state", down(disc(slotted(1, 0), file(snap(1), nil))), api.ErrDown)
}

// P15.3: ErrNone where there is no slot, whatever states are there.
func TestLoadWithoutSlot(t *testing.T) {
	s := busy(t)
	states := []api.File{kept(1, s), kept(2, s), file(snap(3), nil), file("tmp", bytesOf(s))}
	hasNone(t, "nothing", disc(), api.ErrNone)
	hasNone(t, "nothing at all", api.Disk{}, api.ErrNone)
	hasNone(t, "others", disc(others()...), api.ErrNone)
	hasNone(t, "states", disc(states...), api.ErrNone)
	for what, b := range map[string][]byte{
		"empty": nil, "short": slotted(1, 6).Data[:19], "long": append(slotted(1, 6).Data, 0), "another place": slotted(2, 6).Data,
	} {
		hasNone(t, what, disc(append(states, file("slot.1", b))...), api.ErrNone)
	}
}

// P15.3: ErrForm where the file of the slot's Gen isn't there, or isn't a state's bytes: then no other state counts.
func TestLoadSpoilt(t *testing.T) {
	s := busy(t)
	for _, gen := range []int64{2, 3, 10, api.MaxLsn - 1} {
		rest := []api.File{slotted(gen, s.Lsn), slotted(gen-1, s.Lsn), kept(gen-1, s), kept(gen+1, s), file("tmp", bytesOf(s)), file("snap.0000000000", bytesOf(s))}
		hasNone(t, "isn't there", disc(rest...), api.ErrForm)
		for what, b := range spoilt(s) {
			hasNone(t, what, disc(append(rest, file(snap(gen), b))...), api.ErrForm)
		}
		has(t, "whole", disc(append(rest, kept(gen, s))...), s, gen, api.OK)
	}
}

// P15.3: ErrForm where the state's Lsn isn't the slot's, by however little.
func TestLoadAnotherLsn(t *testing.T) {
	s := busy(t)
	for _, of := range []int64{0, 1, 6, 255, 256, api.MaxLsn} {
		for _, slots := range []int64{0, 1, 5, 6, 7, 255, 256, 1 << 24, api.MaxLsn - 1, api.MaxLsn} {
			s.Lsn = of
			d := disc(slotted(4, slots), kept(4, s), slotted(3, of), kept(3, s))
			if of == slots {
				has(t, of, d, s, 4, api.OK)
			} else {
				hasNone(t, fmt.Sprint(of, slots), d, api.ErrForm)
			}
		}
	}
}

// Rule 3 of the document: a state that is loaded is new memory.
func TestLoadsToItsOwn(t *testing.T) {
	s := busy(t)
	d := disc(slotted(1, s.Lsn), kept(1, s))
	got, _, _ := store.Load(d)
	for _, f := range d.Files {
		clear(f.Data)
	}
	if !row.Same(got, s) {
		t.Errorf("%+v became %+v", s, got)
	}
	got.Cells[0].Pos++
	clear(got.Orders)
	d = disc(slotted(1, s.Lsn), kept(1, s))
	has(t, "again", d, s, 1, api.OK)
}

// let are the files that a save lets be.
func let(d api.Disk) string {
	d.Files = slices.DeleteFunc(slices.Clone(d.Files), func(f api.File) bool {
		return f.Name == "tmp" || f.Name == "slot.0" || f.Name == "slot.1" || generation(f.Name) != 0
	})
	return shown(fused(d, api.None))
}

// P15.4: of a disk on which all lasts: whenever the power goes within Save, and whatever it leaves, Load tells what it
// told ahead, or the new state; all other files are as they were; and a state may be saved then.
func TestWhenThePowerGoes(t *testing.T) {
	for what, g := range grounds(t) {
		powerGoes(t, what, g.d, g.next, busy(t))
		powerGoes(t, what, g.d, g.next, begun(t))
	}
}

func powerGoes(t *testing.T, what string, d api.Disk, next int64, s api.State) {
	t.Helper()
	was, wasGen, wasErr := store.Load(d)
	size := len(bytesOf(s))
	for fuse := 0; ; fuse++ {
		is, gen, err := store.Save(fused(d, fuse), s)
		if err != api.OK && (err != api.ErrDown || gen != 0 || !is.Down) {
			t.Fatalf("%s, fuse %d: Save = %d, %d", what, fuse, gen, err)
		}
		for _, keep := range append(upTo(24), size-1, size, size+1) {
			back, _ := disk.Back(is, []int{keep}, api.None)
			got, gotGen, gotErr := store.Load(back)
			old := row.Same(got, was) && gotGen == wasGen && gotErr == wasErr && err != api.OK
			if fresh := row.Same(got, s) && gotGen == next && gotErr == api.OK; !old && !fresh {
				t.Fatalf("%s, fuse %d, keep %d: Load = %+v, %d, %d; behind %+v, %d, %d", what, fuse, keep, got, gotGen, gotErr, was, wasGen, wasErr)
			}
			if let(back) != let(d) {
				t.Fatalf("%s, fuse %d, keep %d: others are %s; were %s", what, fuse, keep, let(back), let(d))
			}
			if gotErr == api.OK && gotGen < api.MaxLsn {
				becomes(t, what, back, s, saved(back, gotGen+1, s), gotGen+1, api.OK)
			}
		}
		if err == api.OK {
			return
		}
	}
}

// upTo are the numbers from 0 on, below n.
func upTo(n int) []int {
	var l []int
	for i := range n {
		l = append(l, i)
	}
	return l
}

// P15.4: state behind state, the power going now and then, also behind one that it went in: what counts never goes back,
// and other files stay.
func TestWalk(t *testing.T) {
	for seed := range int64(150) {
		r := rand.New(rand.NewSource(seed))
		s := busy(t)
		d := disc(file("log.0000000001", []byte("abc")))
		was, wasGen, wasErr := store.Load(d)
		for range 30 {
			s = walked(s, r)
			d.Fuse = r.Intn(12) - 1
			is, gen, err := saves(t, d, s)
			if err == api.OK && gen != wasGen+1 || err != api.OK && (err != api.ErrDown || gen != 0) {
				t.Fatalf("seed %d: Save = %d, %d behind %d", seed, gen, err, wasGen)
			}
			keep := []int{r.Intn(400), r.Intn(400), r.Intn(24)}
			d, _ = disk.Back(is, keep[:r.Intn(4)], api.None)
			got, gotGen, gotErr := loads(t, d)
			fresh := row.Same(got, s) && gotGen == wasGen+1 && gotErr == api.OK
			old := row.Same(got, was) && gotGen == wasGen && gotErr == wasErr
			if !fresh && (!old || err == api.OK) || !strings.Contains(shown(d), `["log.0000000001" 616263 3]`) {
				t.Fatalf("seed %d: Save = %d, %d, then Load = %+v, %d, %d of %s", seed, gen, err, got, gotGen, gotErr, shown(d))
			}
			was, wasGen, wasErr = got, gotGen, gotErr
		}
	}
}

// walked is the state with a record done that may be.
func walked(s api.State, r *rand.Rand) api.State {
	rec := api.Rec{Kind: api.Kill, On: r.Intn(2) == 0}
	switch r.Intn(3) {
	case 0:
		rec = api.Rec{Kind: api.New, Order: s.Last + 1, Account: r.Intn(2), Symbol: r.Intn(3), Side: api.Buy, Qty: 1 + r.Int63n(9), Price: 4}
	case 1:
		rec = api.Rec{Kind: api.Event, Seq: s.Seq + 1, What: api.Fill, Order: s.Last, Qty: 1}
	}
	if then, err := book.Do(s, rec); err == api.OK && len(then.Orders) < 20 {
		return then
	}
	return s
}
