package feed_test

import (
	"slices"
	"testing"

	"snaffle/api"
	"snaffle/feed"
)

// P17.1: feeds by name that are right.
func TestRightFeeds(t *testing.T) {
	for what, c := range map[string]struct {
		f    api.Feed
		next int64
	}{
		"nothing, at first":       {api.Feed{}, 1},
		"nothing, at last":        {api.Feed{}, api.MaxLsn + 1},
		"nothing, but a gap":      {gap(api.Feed{}), 7},
		"the one behind the next": {holding(8), 7},
		"one as far as may be":    {holding(15), 7},
		"both":                    {gap(holding(8, 15)), 7},
		"with some between":       {holding(3, 4, 6, 9), 1},
		"as many as may be":       {holding(2, 3, 4, 5, 6, 7, 8, 9), 1},
		"the last ones":           {holding(api.MaxLsn-1, api.MaxLsn), api.MaxLsn - 8},
		"notes that tell nothing": {api.Feed{Held: []api.Note{{Seq: 5}, {Seq: 6, What: -1, Order: least, Qty: least, Price: most}}}, 4},
	} {
		if !feed.Right(c.f, c.next) {
			t.Errorf("%s: %s isn't right for %d", what, shown(c.f), c.next)
		}
	}
}

// wrong is a feed that isn't right for a next number.
type wrong struct {
	f    api.Feed
	next int64
}

// wrongFeeds by name, each by one thing.
func wrongFeeds() map[string]wrong {
	return map[string]wrong{
		"next is 0":                 {api.Feed{}, 0},
		"next is below 0":           {api.Feed{}, -1},
		"next is least":             {api.Feed{}, least},
		"next is above all":         {api.Feed{}, api.MaxLsn + 2},
		"next is most":              {api.Feed{}, most},
		"next is 0, and one held":   {holding(1), 0},
		"next is above all, held":   {holding(api.MaxLsn + 3), api.MaxLsn + 2},
		"the next one is held":      {holding(7), 7},
		"it is held ahead":          {holding(7, 8), 7},
		"one below is held":         {holding(6, 8), 7},
		"one of 0":                  {holding(0, 8), 7},
		"one of least":              {holding(least), 7},
		"one too far":               {holding(16), 7},
		"one too far, behind":       {holding(8, 9, 16), 7},
		"one of most":               {holding(8, most), 7},
		"one too far, and 8 of all": {holding(2, 3, 4, 5, 6, 7, 8, 10), 1},
		"9 of all":                  {holding(2, 3, 4, 5, 6, 7, 8, 9, 10), 1},
		"9 of all, one twice":       {holding(2, 3, 4, 5, 6, 7, 8, 9, 9), 1},
		"9 of one":                  {holding(5, 5, 5, 5, 5, 5, 5, 5, 5), 1},
		"one twice at first":        {holding(8, 8), 7},
		"one twice at last":         {holding(8, 9, 12, 12), 7},
		"one that falls":            {holding(9, 8), 7},
		"one that falls at last":    {holding(8, 10, 12, 11), 7},
		"one too far between":       {holding(8, 16, 9), 7},
		"a gap, and one too far":    {gap(holding(16)), 7},
	}
}

// P17.1, P17.2: feeds by name that aren't right: ErrArg, as it is, whatever note comes.
func TestWrongFeeds(t *testing.T) {
	for what, w := range wrongFeeds() {
		if feed.Right(w.f, w.next) || right(w.f, w.next) {
			t.Errorf("%s: %s is right for %d", what, shown(w.f), w.next)
		}
		for _, seq := range seqs(7) {
			got, ready, err := does(t, w.f, note(seq, 40), w.next)
			if err != api.ErrArg || !same(got, w.f) || ready != nil {
				t.Errorf("%s: %s; %v, %d", what, shown(got), ready, err)
			}
		}
	}
}

// P17.1: each list of up to three numbers about the next one, and each number at all edges in each place of a full one.
func TestEachFeed(t *testing.T) {
	for _, next := range append(nexts(), least, -1, 0, maxLsn+2, most-9, most-8, most) {
		check := func(seqs ...int64) {
			f := holding(seqs...)
			want := right(f, next)
			if feed.Right(f, next) != want || feed.Right(gap(f), next) != want {
				t.Fatalf("Right(%s, %d) isn't %v", shown(f), next, want)
			}
		}
		check()
		for a := next - 2; a != next+11; a++ {
			check(a)
			for b := next - 2; b != next+11; b++ {
				check(a, b)
				for c := next - 2; c != next+11; c++ {
					check(a, b, c)
				}
			}
		}
		for at := range int64(8) {
			for _, seq := range seqs(next) {
				all := []int64{next + 1, next + 2, next + 3, next + 4, next + 5, next + 6, next + 7, next + 8}
				all[at] = seq
				check(all...)
			}
		}
	}
}

// P17.2: to each feed that is right a note of each number comes, also of one that may not be.
func TestEachNote(t *testing.T) {
	for _, next := range nexts() {
		for _, f := range feeds(next) {
			if !feed.Right(f, next) {
				t.Fatalf("%s isn't right for %d", shown(f), next)
			}
			for _, seq := range seqs(next) {
				got, ready, err := does(t, f, note(seq, 40), next)
				if may := seq >= 1 && seq <= maxLsn; may != (err == api.OK) {
					t.Fatalf("note %d to %s: %d", seq, shown(f), err)
				}
				if err == api.OK && next+int64(len(ready)) <= maxLsn+1 && !feed.Right(got, next+int64(len(ready))) {
					t.Fatalf("note %d to %s: %s isn't right behind %d", seq, shown(f), shown(got), len(ready))
				}
			}
		}
	}
}

// P17.2: notes of no number that there is: ErrArg, as it is, though the feed is right.
func TestWrongNotes(t *testing.T) {
	for _, f := range []api.Feed{{}, holding(4, 5), gap(holding(10))} {
		for _, seq := range []int64{least, -1, 0, api.MaxLsn + 1, most} {
			got, ready, err := does(t, f, note(seq, 40), 3)
			if err != api.ErrArg || !same(got, f) || ready != nil {
				t.Errorf("note %d: %s; %v, %d", seq, shown(got), ready, err)
			}
		}
	}
}

// P17.2: what becomes of a note by its number, by name.
func TestComes(t *testing.T) {
	n := func(seq int64) api.Note { return note(seq, 40) }
	f := holding(8, 9, 11, 13)
	h := f.Held
	for what, c := range map[string]struct {
		seq   int64
		held  []api.Note
		ready []api.Note
		gap   bool
	}{
		"the first of all":         {1, h, nil, false},
		"the last one that was":    {6, h, nil, false},
		"the next one":             {7, h[2:], []api.Note{n(7), h[0], h[1]}, false},
		"the first one held":       {8, h, nil, false},
		"the last one held":        {13, h, nil, false},
		"one between":              {10, []api.Note{h[0], h[1], n(10), h[2], h[3]}, nil, false},
		"one behind all held":      {14, append(slices.Clone(h), n(14)), nil, false},
		"one as far as may be":     {15, append(slices.Clone(h), n(15)), nil, false},
		"one too far":              {16, h, nil, true},
		"the last one that may be": {api.MaxLsn, h, nil, true},
	} {
		got, ready, err := does(t, f, n(c.seq), 7)
		if err != api.OK || !same(got, api.Feed{Held: c.held, Gap: c.gap}) || !slices.Equal(ready, c.ready) {
			t.Errorf("%s: %s; %+v, %d", what, shown(got), ready, err)
		}
		if got, _, _ := does(t, gap(f), n(c.seq), 7); !got.Gap {
			t.Errorf("%s: the gap went", what)
		}
	}
}

// P17.2: the last number that there is is ready in its turn, and is held ahead of it; behind it nothing is.
func TestLastNumber(t *testing.T) {
	f, ready, err := does(t, api.Feed{}, note(api.MaxLsn, 1), api.MaxLsn-1)
	if err != api.OK || len(f.Held) != 1 || ready != nil {
		t.Error(shown(f), ready, err)
	}
	f, ready, err = does(t, f, note(api.MaxLsn-1, 2), api.MaxLsn-1)
	if err != api.OK || len(f.Held) != 0 || len(ready) != 2 {
		t.Error(shown(f), ready, err)
	}
	f, ready, err = does(t, f, note(api.MaxLsn, 1), api.MaxLsn+1)
	if err != api.OK || !same(f, api.Feed{}) || ready != nil {
		t.Error(shown(f), ready, err)
	}
}

// P17.3: of any feed, right or not, all is as it is but the gap; in memory of its own.
func TestMend(t *testing.T) {
	l := append(feeds(3), api.Feed{}, gap(api.Feed{}))
	for _, w := range wrongFeeds() {
		l = append(l, w.f, gap(w.f))
	}
	l = append(l, gap(api.Feed{Held: make([]api.Note, 1000)}))
	for _, f := range l {
		f = roomy(f)
		was, gapWas := slices.Clone(room(f.Held)), f.Gap
		want := api.Feed{Held: slices.Clone(f.Held)}
		got := feed.Mend(f)
		if !same(got, want) {
			t.Fatalf("Mend(%s) = %s", shown(f), shown(got))
		}
		if f.Gap != gapWas || !slices.Equal(room(f.Held), was) {
			t.Fatalf("Mend changed %+v to %+v", was, room(f.Held))
		}
		apart(t, f, got, nil)
	}
}
