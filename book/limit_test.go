package book_test

import (
	"testing"

	"snaffle/api"
	"snaffle/book"
)

// The chapter's example.
func TestExample(t *testing.T) {
	s := begun(t, 1, 1, api.Expo{Long: 5, Short: most, Open: most}, most)
	refuses(t, s, buys(1, 6, 1), api.ErrLimit)
	does(t, s, buys(1, 5, 1))
}

// P10.3, P10.4: each of a limit's three stands by itself at its border, and so does a cap; those of another cell or
// account don't.
func TestEachLimit(t *testing.T) {
	for name, x := range map[string]struct {
		turn         api.Rec
		last, beyond api.Rec
	}{
		"long":  {bounds(1, 1, 9, most, most), buys(1, 9, 5), buys(1, 10, 1)},
		"short": {bounds(1, 1, most, 9, most), sells(buys(1, 9, 5)), sells(buys(1, 10, 1))},
		"open":  {bounds(1, 1, most, most, 9), buys(1, 1, 9), buys(1, 2, 5)},
		"sold":  {bounds(1, 1, most, most, 9), sells(buys(1, 3, 3)), sells(buys(1, 1, 10))},
		"cap":   {bounds(1, api.None, 0, 0, 9), buys(1, 1, 9), sells(buys(1, 5, 2))},
	} {
		s := does(t, wide(t, 3, 3), x.turn)
		if got := does(t, s, of(x.last, 1, 1)); len(got.Orders) != 1 {
			t.Errorf("%s: %+v", name, got)
		}
		refuses(t, s, of(x.beyond, 1, 1), api.ErrLimit)
		does(t, s, of(x.beyond, 0, 1))
		does(t, s, of(x.beyond, 2, 1))
		if x.turn.Symbol == api.None {
			refuses(t, s, of(x.beyond, 1, 0), api.ErrLimit)
		} else {
			does(t, s, of(x.beyond, 1, 0))
		}
	}
}

// P10.3: what is had counts: bought, more may be sold, and less be bought.
func TestLimitsOfWhatIsHad(t *testing.T) {
	s := begun(t, 1, 1, api.Expo{Long: 10, Short: 10, Open: most}, most)
	s = does(t, s, buys(1, 10, 1), tells(1, api.Ack, 1, 0, 0), tells(2, api.Fill, 1, 7, 0))
	refuses(t, s, buys(2, 1, 1), api.ErrLimit)
	refuses(t, s, sells(buys(2, 18, 1)), api.ErrLimit)
	s = does(t, s, sells(buys(2, 17, 1)), tells(3, api.Out, 1, 0, 0))
	refuses(t, s, buys(3, 4, 1), api.ErrLimit)
	does(t, s, buys(3, 3, 1))
}

// P10.3: the cap counts what is open of the account in all its cells, and of no other account.
func TestCapOfAllCells(t *testing.T) {
	s := does(t, wide(t, 2, 3), bounds(0, api.None, 0, 0, 100), of(buys(1, 1, 999), 1, 0), of(buys(2, 3, 10), 0, 0),
		of(sells(buys(3, 5, 10)), 0, 1))
	refuses(t, s, of(buys(4, 3, 7), 0, 2), api.ErrLimit)
	refuses(t, s, of(sells(buys(4, 1, 21)), 0, 0), api.ErrLimit)
	s = does(t, s, of(buys(4, 4, 5), 0, 2), tells(1, api.Ack, 3, 0, 0))
	refuses(t, s, replaces(3, 5, 11), api.ErrLimit)
	s = does(t, s, tells(2, api.Fill, 3, 1, 0))
	refuses(t, s, replaces(3, 5, 13), api.ErrLimit)
	s = does(t, s, replaces(3, 5, 12))
	if n, err := book.Open(s, 0); n != 98 || err != api.OK {
		t.Errorf("Open = %d, %d", n, err)
	}
}

// P10.3: a change is held against its limits by what there was with the order, not without it; what is less is let be.
func TestLimitsOfAChange(t *testing.T) {
	s := begun(t, 1, 1, api.Expo{Long: 10, Short: 10, Open: 60}, 100)
	s = does(t, s, buys(1, 6, 10), tells(1, api.Ack, 1, 0, 0))
	refuses(t, s, replaces(1, 11, 1), api.ErrLimit)
	refuses(t, s, replaces(1, 7, 9), api.ErrLimit)
	does(t, s, replaces(1, 10, 6))
	// All that there is, is beyond these: of it no more may be, but as much, and less.
	for _, turn := range []api.Rec{bounds(0, 0, 2, 2, 60), bounds(0, 0, 10, 10, 5), bounds(0, 0, 0, 0, 0), bounds(0, api.None, 0, 0, 5)} {
		low := does(t, s, turn)
		does(t, low, replaces(1, 6, 10))
		does(t, low, replaces(1, 5, 9))
		does(t, low, replaces(1, 1, 1))
		refuses(t, low, replaces(1, 7, 9), api.ErrLimit)
	}
}

// P10.4: where a cell is beyond its limit already, only what makes more of that is stood against.
func TestBeyondAlready(t *testing.T) {
	s := does(t, wide(t, 1, 2), buys(1, 6, 10), bounds(0, 0, 5, 5, 70))
	refuses(t, s, buys(2, 1, 1), api.ErrLimit)
	refuses(t, s, sells(buys(2, 6, 1)), api.ErrLimit)
	refuses(t, s, sells(buys(2, 1, 11)), api.ErrLimit)
	does(t, s, sells(buys(2, 5, 2)))
	s = does(t, s, bounds(0, api.None, 0, 0, 59))
	refuses(t, s, sells(buys(2, 1, 1)), api.ErrLimit)
	refuses(t, s, of(buys(2, 1, 1), 0, 1), api.ErrLimit)
}

// P10.3: numbers that are none, of an order, of its cell, and of what is open of the account together.
func TestOver(t *testing.T) {
	s := wide(t, 2, 2)
	for _, r := range []api.Rec{buys(1, 1<<62, 2), buys(1, most, 2), buys(1, most, most), buys(1, 1<<62, 4), buys(1, 1<<32, 1<<32)} {
		refuses(t, s, r, api.ErrOver)
		refuses(t, s, sells(r), api.ErrOver)
	}
	s = does(t, s, buys(1, most-10, 1))
	refuses(t, s, buys(2, 11, 1), api.ErrOver)
	refuses(t, s, buys(2, 1, 11), api.ErrOver)
	refuses(t, s, sells(buys(2, 1, 11)), api.ErrOver)
	refuses(t, s, of(buys(2, 1, 11), 0, 1), api.ErrOver)
	does(t, s, buys(2, 10, 1))
	does(t, s, sells(buys(2, 2, 5)))
	does(t, s, of(buys(2, 1, 10), 0, 1))
	does(t, s, of(buys(2, most, 1), 1, 1))
	had := wide(t, 1, 1)
	had.Cells[0].Pos = most - 10
	refuses(t, had, buys(1, 11, 1), api.ErrOver)
	does(t, had, buys(1, 10, 1))
	does(t, had, sells(buys(1, most, 1)))
	had.Cells[0].Pos = -most + 10
	refuses(t, had, sells(buys(1, 11, 1)), api.ErrOver)
	does(t, had, sells(buys(1, 10, 1)))
	does(t, had, buys(1, most, 1))
}

// P10.3: likewise of a change; numbers that are none go ahead of limits.
func TestOverOfAChange(t *testing.T) {
	s := does(t, wide(t, 1, 2), of(buys(1, 1, most-10), 0, 0), of(buys(2, 2, 2), 0, 1), tells(1, api.Ack, 1, 0, 0), tells(2, api.Ack, 2, 0, 0))
	for _, turn := range []api.Rec{kills(false), bounds(0, 1, 0, 0, 0), bounds(0, api.None, 0, 0, 0)} {
		s := does(t, s, turn)
		refuses(t, s, replaces(2, 1, 11), api.ErrOver)
		refuses(t, s, replaces(2, 1<<62, 4), api.ErrOver)
		refuses(t, s, replaces(1, 2, most), api.ErrOver)
		does(t, s, replaces(2, 1, 4))
	}
	does(t, s, replaces(2, 2, 5))
	does(t, s, replaces(1, 1, most-4))
	refuses(t, s, replaces(1, 1, most-3), api.ErrOver)
	s.Cells[1].Pos = most - 4
	refuses(t, s, replaces(2, 5, 1), api.ErrOver)
	does(t, s, replaces(2, 4, 1))
}

// P10.3: the greatest numbers that there are may be asked for, be changed, be done, and be had.
func TestGreatest(t *testing.T) {
	s := does(t, wide(t, 1, 1), buys(1, most, 1), tells(1, api.Ack, 1, 0, 0), replaces(1, most, 1), tells(2, api.Fill, 1, most-1, 0),
		tells(3, api.Fill, 1, 1, 0), sells(buys(2, most, 1)), tells(4, api.Ack, 2, 0, 0), tells(5, api.Fill, 2, most, 0))
	if s.Cells[0] != (api.Cell{}) || len(s.Orders) != 0 || s.Lsn != 8 {
		t.Errorf("%+v", s)
	}
	s = does(t, s, sells(buys(3, 1, most)), tells(6, api.Ack, 3, 0, 0), replaces(3, most, 1), tells(7, api.Replaced, 3, most, 1),
		tells(8, api.Fill, 3, most, 0))
	if s.Cells[0] != (api.Cell{Pos: -most}) {
		t.Errorf("%+v", s)
	}
	refuses(t, s, sells(buys(4, 1, 1)), api.ErrOver)
	does(t, s, buys(4, most, 1))
}
