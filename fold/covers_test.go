package fold_test

import (
	"slices"
	"testing"

	"snaffle/api"
	"snaffle/book"
	"snaffle/fold"
)

// at is a state of 2 accounts and 2 symbols in which one cell has such a position, and orders.
func at(t *testing.T, place int, pos int64, l ...api.Rec) api.State {
	t.Helper()
	s := wide(t, 2, 2)
	s.Cells[place].Pos = pos
	for i, r := range l {
		r.Order = int64(i + 1)
		s = does(t, s, of(r, place/2, place%2))
	}
	return s
}

// P11.2: what each cell may come to stands at its place, up to the numbers that there are.
func TestExposByNumber(t *testing.T) {
	for place := range 4 {
		for _, x := range []struct {
			pos  int64
			l    []api.Rec
			want api.Expo
		}{
			{0, nil, api.Expo{}},
			{7, nil, api.Expo{Long: 7, Short: -7}},
			{-7, nil, api.Expo{Long: -7, Short: 7}},
			{most, nil, api.Expo{Long: most, Short: -most}},
			{-most, nil, api.Expo{Long: -most, Short: most}},
			{0, []api.Rec{buys(0, most, 1)}, api.Expo{Long: most, Open: most}},
			{0, []api.Rec{sells(buys(0, 1, most))}, api.Expo{Short: 1, Open: most}},
			{most - 5, []api.Rec{buys(0, 5, 3)}, api.Expo{Long: most, Short: 5 - most, Open: 15}},
			{5 - most, []api.Rec{sells(buys(0, 5, 3))}, api.Expo{Long: 5 - most, Short: most, Open: 15}},
			{2, []api.Rec{buys(0, 5, 3), sells(buys(0, 9, 2)), buys(0, 1, 1)}, api.Expo{Long: 8, Short: 7, Open: 34}},
		} {
			want := make([]api.Expo, 4)
			want[place] = x.want
			if got := fold.Expos(at(t, place, x.pos, x.l...)); !slices.Equal(got, want) {
				t.Errorf("place %d, position %d, %+v: %+v; want %+v", place, x.pos, x.l, got, want)
			}
		}
	}
}

// P11.2: what each cell may come to is told in new memory, of each count of cells.
func TestExposMemory(t *testing.T) {
	for accounts := 1; accounts <= api.MaxAccounts; accounts++ {
		for symbols := 1; symbols <= api.MaxSymbols; symbols++ {
			s := roomy(begun(t, accounts, symbols, api.Expo{Long: 4, Short: 5, Open: 6}, 7))
			s.Cells[accounts*symbols-1].Pos = 3
			was := copied(wholly(s))
			got := fold.Expos(s)
			want := make([]api.Expo, accounts*symbols)
			want[accounts*symbols-1] = api.Expo{Long: 3, Short: -3}
			if !slices.Equal(got, want) {
				t.Errorf("%d accounts, %d symbols: %+v", accounts, symbols, got)
			}
			got = got[:cap(got)]
			for i := range got {
				got[i] = api.Expo{Long: -1}
			}
			if !same(wholly(s), was) {
				t.Errorf("%d accounts, %d symbols: what was handed in changed", accounts, symbols)
			}
			if !fold.Covers(s, s) || !same(wholly(s), was) {
				t.Errorf("%d accounts, %d symbols: covers not itself, or changed it", accounts, symbols)
			}
		}
	}
}

// P11.2: a state covers another one if none of the three is less, at any cell.
func TestCoversByNumber(t *testing.T) {
	for place := range 4 {
		base := at(t, place, 3, buys(0, 6, 4), sells(buys(0, 6, 4)))
		for name, x := range map[string]struct {
			s            api.State
			over, covers bool // does it cover the base; does the base cover it?
		}{
			"the same":                  {base, true, true},
			"long and open more":        {at(t, place, 3, buys(0, 7, 4), sells(buys(0, 6, 4))), true, false},
			"long more, short less":     {at(t, place, 4, buys(0, 6, 4), sells(buys(0, 6, 4))), false, false},
			"long less, short more":     {at(t, place, 2, buys(0, 6, 4), sells(buys(0, 6, 4))), false, false},
			"long more alone":           {at(t, place, 3, buys(0, 8, 3), sells(buys(0, 6, 4))), true, false},
			"long less alone":           {at(t, place, 3, buys(0, 4, 6), sells(buys(0, 6, 4))), false, true},
			"short more alone":          {at(t, place, 3, buys(0, 6, 4), sells(buys(0, 8, 3))), true, false},
			"short less alone":          {at(t, place, 3, buys(0, 6, 4), sells(buys(0, 4, 6))), false, true},
			"open more alone":           {at(t, place, 3, buys(0, 6, 5), sells(buys(0, 6, 4))), true, false},
			"open less alone":           {at(t, place, 3, buys(0, 6, 4), sells(buys(0, 6, 3))), false, true},
			"short more, open less":     {at(t, place, 3, buys(0, 6, 4), sells(buys(0, 7, 1))), false, false},
			"all more":                  {at(t, place, 3, buys(0, 7, 4), sells(buys(0, 7, 4))), true, false},
			"all less":                  {at(t, place, 3, buys(0, 5, 4), sells(buys(0, 5, 4))), false, true},
			"at another place":          {at(t, (place+1)%4, 3, buys(0, 6, 4), sells(buys(0, 6, 4))), false, false},
			"as much, of other orders":  {at(t, place, 3, sells(buys(0, 6, 4)), buys(0, 2, 4), buys(0, 4, 4)), true, true},
			"as much, of two positions": {at(t, place, 3, buys(0, 3, 4), buys(0, 3, 4), sells(buys(0, 6, 4))), true, true},
		} {
			if got := fold.Covers(x.s, base); got != x.over {
				t.Errorf("%s, place %d: covers: %v", name, place, got)
			}
			if got := fold.Covers(base, x.s); got != x.covers {
				t.Errorf("%s, place %d: is covered: %v", name, place, got)
			}
		}
	}
}

// P11.2: two cells in which one and the other state have more: neither covers.
func TestCoversEachCell(t *testing.T) {
	for i := range 4 {
		for k := range 4 {
			a, b := wide(t, 2, 2), wide(t, 2, 2)
			a = does(t, a, of(buys(1, 2, 2), i/2, i%2))
			b = does(t, b, of(buys(1, 2, 2), k/2, k%2))
			if got := fold.Covers(a, b); got != (i == k) {
				t.Errorf("%d covers %d: %v", i, k, got)
			}
		}
	}
}

// P11.2: nothing else of a state matters.
func TestCoversWhateverElse(t *testing.T) {
	base := does(t, wide(t, 2, 2), buys(4, 6, 4), of(sells(buys(7, 3, 3)), 1, 1))
	for name, change := range map[string]func(s *api.State){
		"other limits": func(s *api.State) { clear(s.Limits) },
		"other caps":   func(s *api.State) { clear(s.Caps) },
		"the switch":   func(s *api.State) { s.Kill = true },
		"last":         func(s *api.State) { s.Last = api.MaxId },
		"seq":          func(s *api.State) { s.Seq = api.MaxLsn },
		"lsn":          func(s *api.State) { s.Lsn = api.MaxLsn },
		"a number":     func(s *api.State) { s.Orders[0].Id = 2 },
		"a phase":      func(s *api.State) { s.Orders[0].Phase = api.Live },
		"asked":        func(s *api.State) { s.Orders[0].Asked = true },
	} {
		s := copied(base)
		change(&s)
		if !fold.Covers(s, base) || !fold.Covers(base, s) {
			t.Errorf("%s: covers not, or isn't covered", name)
		}
	}
}

// P11.2: states of other accounts or symbols don't cover one another, though they have as many cells.
func TestCoversOtherSizes(t *testing.T) {
	for a := 1; a <= api.MaxAccounts; a++ {
		for b := 1; b <= api.MaxSymbols; b++ {
			for _, x := range [][2]int{{b, a}, {a, b}, {1, 1}, {1, 8}, {8, 1}, {2, 4}, {4, 2}, {8, 8}} {
				s, other := wide(t, a, b), wide(t, x[0], x[1])
				if got := fold.Covers(s, other); got != (a == x[0] && b == x[1]) {
					t.Errorf("%d accounts, %d symbols cover %v: %v", a, b, x, got)
				}
			}
		}
	}
	if fold.Covers(api.State{}, api.State{}) || fold.Covers(wide(t, 1, 1), api.State{}) || fold.Covers(api.State{}, wide(t, 1, 1)) {
		t.Error("nothing covers, or is covered")
	}
}

// P11.3: what events make of a state is covered by it, number by number.
func TestEventsByNumber(t *testing.T) {
	s := does(t, wide(t, 1, 2), buys(1, 10, 3), of(sells(buys(2, 20, 2)), 0, 1), tells(1, api.Ack, 1, 0, 0), replaces(1, 12, 4))
	l := []api.Rec{
		tells(2, api.Fill, 1, 4, 0), tells(3, api.Ack, 2, 0, 0), tells(4, api.Fill, 2, 1, 0), tells(5, api.Replaced, 1, 12, 4),
		tells(6, api.Refused, 1, 0, 0), tells(7, api.Fill, 2, 19, 0), tells(8, api.Out, 1, 0, 0),
	}
	for i, want := range [][]api.Expo{
		{{Long: 12, Open: 48}, {Short: 20, Open: 40}},
		{{Long: 12, Short: -4, Open: 32}, {Short: 20, Open: 40}},
		{{Long: 12, Short: -4, Open: 32}, {Short: 20, Open: 40}},
		{{Long: 12, Short: -4, Open: 32}, {Long: -1, Short: 20, Open: 38}},
		{{Long: 12, Short: -4, Open: 32}, {Long: -1, Short: 20, Open: 38}},
		{{Long: 12, Short: -4, Open: 32}, {Long: -1, Short: 20, Open: 38}},
		{{Long: 12, Short: -4, Open: 32}, {Long: -20, Short: 20}},
		{{Long: 4, Short: -4}, {Long: -20, Short: 20}},
	} {
		then, n, err := folds(t, s, l[:i])
		if n != i || err != api.OK || !book.Right(then) {
			t.Fatalf("%d events: %+v, %d, %d", i, then, n, err)
		}
		if got := fold.Expos(then); !slices.Equal(got, want) {
			t.Errorf("%d events: %+v; want %+v", i, got, want)
		}
		if !fold.Covers(s, then) || fold.Covers(then, s) != slices.Equal(want, fold.Expos(s)) {
			t.Errorf("%d events: %+v, of %+v", i, then, s)
		}
	}
}
