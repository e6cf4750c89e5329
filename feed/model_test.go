package feed_test

import (
	"fmt"
	"maps"
	"math"
	"slices"
	"testing"

	"snaffle/api"
	"snaffle/feed"
)

// What the chapter says, told otherwise: what is held is a table of notes by their numbers, into which each one goes
// that comes at most 8 ahead; and out of which those go whose turn it is.

const (
	most   = math.MaxInt64
	least  = math.MinInt64
	maxLsn = 1000000000
)

// right feed, as the chapter says?
func right(f api.Feed, next int64) bool {
	if next < 1 || next > maxLsn+1 {
		return false
	}
	var seqs []int64
	ok := true
	for _, n := range f.Held {
		ok = ok && next < n.Seq && n.Seq <= next+8
		seqs = append(seqs, n.Seq)
	}
	return ok && slices.IsSorted(seqs) && len(slices.Compact(seqs)) == len(f.Held) && len(f.Held) <= 8
}

// came is what the chapter says of Come.
func came(f api.Feed, n api.Note, next int64) (api.Feed, []api.Note, api.Errno) {
	if !right(f, next) || n.Seq < 1 || n.Seq > maxLsn {
		return f, nil, api.ErrArg
	}
	held := map[int64]api.Note{}
	for _, h := range f.Held {
		held[h.Seq] = h
	}
	_, is := held[n.Seq]
	switch far := n.Seq - next; {
	case far > 8:
		f.Gap = true
	case far >= 0 && !is:
		held[n.Seq] = n
	}
	var ready []api.Note
	for seq := next; ; seq++ {
		h, is := held[seq]
		if !is {
			break
		}
		ready = append(ready, h)
		delete(held, seq)
	}
	f.Held = nil
	for _, seq := range slices.Sorted(maps.Keys(held)) {
		f.Held = append(f.Held, held[seq])
	}
	return f, ready, api.OK
}

// note of that number; what it tells besides is told by which one it is, and may be nothing that a note tells.
func note(seq, which int64) api.Note {
	return api.Note{Seq: seq, What: int(which % 9), Order: which - 3, Qty: -which, Price: seq ^ which}
}

// holding is a feed that holds notes of these numbers.
func holding(seqs ...int64) api.Feed {
	var f api.Feed
	for i, seq := range seqs {
		f.Held = append(f.Held, note(seq, int64(i)+1))
	}
	return f
}

// gap is a feed to which, too, one came that was too far ahead.
func gap(f api.Feed) api.Feed {
	f.Gap = true
	return f
}

// feeds are all that are right for a number.
func feeds(next int64) []api.Feed {
	var l []api.Feed
	for which := range 1 << 8 {
		var seqs []int64
		for i := range int64(8) {
			if which>>i&1 == 1 {
				seqs = append(seqs, next+1+i)
			}
		}
		l = append(l, holding(seqs...), gap(holding(seqs...)))
	}
	return l
}

// nexts are numbers that may be the next one, at the edges and in between.
func nexts() []int64 {
	l := []int64{1, 2, 3, 8, 9, 10, 500000000}
	for n := int64(maxLsn) - 9; n <= maxLsn+1; n++ {
		l = append(l, n)
	}
	return l
}

// seqs are numbers of notes: all about the next one, and those at the edges, whether or not they may be.
func seqs(next int64) []int64 {
	l := []int64{least, least + 1, -1 << 32, -1, 0, 1, 2, maxLsn - 1, maxLsn, maxLsn + 1, maxLsn + 2, 1<<32 + 1, 1<<32 + next, most - 8, most - 1, most}
	for n := next - 10; n <= next+20; n++ {
		l = append(l, n)
	}
	return l
}

// same feed?
func same(f, g api.Feed) bool { return f.Gap == g.Gap && slices.Equal(f.Held, g.Held) }

// shown is a feed as text.
func shown(f api.Feed) string { return fmt.Sprintf("held %+v, gap %v", f.Held, f.Gap) }

// roomy is a feed with room behind what it holds, in which something stands.
func roomy(f api.Feed) api.Feed {
	f.Held = append(slices.Clone(f.Held), note(71, 71), note(72, 72), note(73, 73))[:len(f.Held)]
	return f
}

// room is all that a list has room for.
func room(l []api.Note) []api.Note { return l[:cap(l)] }

// does a note come to a feed, held to answer what the chapter says, to change nothing that was handed in, to keep none
// of it, and to answer two lists apart.
func does(t *testing.T, f api.Feed, n api.Note, next int64) (api.Feed, []api.Note, api.Errno) {
	t.Helper()
	f = roomy(f)
	was := slices.Clone(room(f.Held))
	want, wantReady, wantErr := came(f, n, next)
	want.Held = slices.Clone(want.Held)
	got, ready, err := feed.Come(f, n, next)
	if err != wantErr || !same(got, want) || !slices.Equal(ready, wantReady) {
		t.Fatalf("Come(%s; %+v, %d)\n = %s; %+v, %d\nwant %s; %+v, %d",
			shown(f), n, next, shown(got), ready, err, shown(want), wantReady, wantErr)
	}
	if !slices.Equal(room(f.Held), was) {
		t.Fatalf("Come(.., %+v, %d) changed %+v to %+v", n, next, was, room(f.Held))
	}
	if err != api.OK {
		return got, ready, err
	}
	apart(t, f, got, ready)
	return want, wantReady, err
}

// apart: nothing of what was handed in, of what is held, and of what is ready changes with another one, nor what has
// its room behind it.
func apart(t *testing.T, f, got api.Feed, ready []api.Note) {
	t.Helper()
	held, were := slices.Clone(got.Held), slices.Clone(ready)
	clear(room(f.Held))
	if !slices.Equal(got.Held, held) || !slices.Equal(ready, were) {
		t.Fatalf("what was handed in is kept: %+v, %+v; were %+v, %+v", got.Held, ready, held, were)
	}
	clear(room(ready))
	if !slices.Equal(got.Held, held) {
		t.Fatalf("what is ready is held: %+v; was %+v", got.Held, held)
	}
	copy(ready, were)
	clear(room(got.Held))
	if !slices.Equal(ready, were) {
		t.Fatalf("what is held is ready: %+v; was %+v", ready, were)
	}
}
