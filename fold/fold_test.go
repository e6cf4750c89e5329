package fold_test

import (
	"math"
	"slices"
	"testing"

	"snaffle/api"
	"snaffle/book"
	"snaffle/fold"
)

const (
	most  = math.MaxInt64
	least = math.MinInt64
)

// buys asks for an order to buy, of account and symbol 0.
func buys(id, qty, price int64) api.Rec {
	return api.Rec{Kind: api.New, Order: id, Side: api.Buy, Qty: qty, Price: price}
}

// sells is it with the other side.
func sells(r api.Rec) api.Rec {
	r.Side = api.Sell
	return r
}

// of is a record of another account and symbol.
func of(r api.Rec, account, symbol int) api.Rec {
	r.Account, r.Symbol = account, symbol
	return r
}

func replaces(id, qty, price int64) api.Rec {
	return api.Rec{Kind: api.Replace, Order: id, Qty: qty, Price: price}
}

func cancels(id int64) api.Rec { return api.Rec{Kind: api.Cancel, Order: id} }

func bounds(account, symbol int, long, short, open int64) api.Rec {
	return api.Rec{Kind: api.Bound, Account: account, Symbol: symbol, Long: long, Short: short, Open: open}
}

func kills(on bool) api.Rec { return api.Rec{Kind: api.Kill, On: on} }

func tells(seq int64, what int, id, qty, price int64) api.Rec {
	return api.Rec{Kind: api.Event, Seq: seq, What: what, Order: id, Qty: qty, Price: price}
}

// copied is a state with lists of its own.
func copied(s api.State) api.State {
	s.Orders, s.Cells = slices.Clone(s.Orders), slices.Clone(s.Cells)
	s.Limits, s.Caps = slices.Clone(s.Limits), slices.Clone(s.Caps)
	return s
}

// same: are all fields of two states the same, a list being nil or empty alike?
func same(a, b api.State) bool {
	return a.Accounts == b.Accounts && a.Symbols == b.Symbols &&
		slices.Equal(a.Orders, b.Orders) && slices.Equal(a.Cells, b.Cells) &&
		slices.Equal(a.Limits, b.Limits) && slices.Equal(a.Caps, b.Caps) &&
		a.Kill == b.Kill && a.Last == b.Last && a.Seq == b.Seq && a.Lsn == b.Lsn
}

// roomy is a state with room behind each of its lists, in which something stands.
func roomy(s api.State) api.State {
	s.Orders = append(slices.Clone(s.Orders), api.Order{Id: 71}, api.Order{Id: 72})[:len(s.Orders)]
	s.Cells = append(slices.Clone(s.Cells), api.Cell{Pos: 73}, api.Cell{Pos: 74})[:len(s.Cells)]
	s.Limits = append(slices.Clone(s.Limits), api.Expo{Long: 75}, api.Expo{Long: 76})[:len(s.Limits)]
	s.Caps = append(slices.Clone(s.Caps), 77, 78)[:len(s.Caps)]
	return s
}

// wholly is a state with lists that have all their room.
func wholly(s api.State) api.State {
	s.Orders, s.Cells = s.Orders[:cap(s.Orders)], s.Cells[:cap(s.Cells)]
	s.Limits, s.Caps = s.Limits[:cap(s.Limits)], s.Caps[:cap(s.Caps)]
	return s
}

// spoil all that a state's lists have, and their room.
func spoil(s api.State) {
	s = wholly(s)
	for i := range s.Orders {
		s.Orders[i] = api.Order{Id: -1}
	}
	for i := range s.Cells {
		s.Cells[i] = api.Cell{Pos: -2}
	}
	for i := range s.Limits {
		s.Limits[i] = api.Expo{Long: -3}
	}
	for i := range s.Caps {
		s.Caps[i] = -4
	}
}

// folds is Fold, held to change nothing that was handed in; what it answers is new memory, if anything was done.
func folds(t *testing.T, s api.State, l []api.Rec) (api.State, int, api.Errno) {
	t.Helper()
	given := roomy(s)
	list := append(slices.Clone(l), api.Rec{Kind: 79}, api.Rec{Kind: 80})[:len(l)]
	was, wasList := copied(wholly(given)), slices.Clone(list[:cap(list)])
	got, n, err := fold.Fold(given, list)
	then := copied(got)
	if n > 0 {
		spoil(got)
	}
	if !same(wholly(given), was) || !slices.Equal(list[:cap(list)], wasList) {
		t.Fatalf("Fold(%+v, %+v) changed what was handed in", s, l)
	}
	return then, n, err
}

// begun is a state with nothing but limits.
func begun(t *testing.T, accounts, symbols int, l api.Expo, cap int64) api.State {
	t.Helper()
	s, err := book.New(accounts, symbols, l, cap)
	if err != api.OK {
		t.Fatalf("New(%d, %d, %+v, %d): %d", accounts, symbols, l, cap, err)
	}
	return s
}

// wide is a state with limits that stand against nothing.
func wide(t *testing.T, accounts, symbols int) api.State {
	t.Helper()
	return begun(t, accounts, symbols, api.Expo{Long: most, Short: most, Open: most}, most)
}

// does records that may be done, each by itself.
func does(t *testing.T, s api.State, l ...api.Rec) api.State {
	t.Helper()
	for _, r := range l {
		then, err := book.Do(s, r)
		if err != api.OK {
			t.Fatalf("%+v: %d; of %+v", r, err, s)
		}
		s = then
	}
	return s
}

// all kinds of records, which may be done one behind the other of 2 accounts and 3 symbols.
func all() []api.Rec {
	return []api.Rec{
		of(buys(3, 10, 3), 0, 1),
		of(sells(buys(5, 20, 2)), 0, 1),
		of(buys(6, 7, 7), 1, 2),
		bounds(1, 0, 11, 12, 13),
		buys(9, 4, 5),
		tells(1, api.Ack, 3, 0, 0),
		tells(2, api.Fill, 3, 4, 0),
		bounds(1, api.None, 0, 0, 49),
		replaces(3, 12, 2),
		cancels(5),
		tells(3, api.Reject, 9, 0, 0),
		kills(true),
		tells(4, api.Out, 77, 0, 0),
		kills(false),
		kills(true),
	}
}

// P11.1: records of all kinds, and the state behind them, number by number.
func TestFoldByNumber(t *testing.T) {
	l := api.Expo{Long: 100, Short: 80, Open: 600}
	want := api.State{
		Accounts: 2, Symbols: 3, Kill: true, Last: 9, Seq: 4, Lsn: 15,
		Orders: []api.Order{
			{Id: 3, Symbol: 1, Side: api.Buy, Qty: 10, Price: 3, Filled: 4, Phase: api.Live, NewQty: 12, NewPrice: 2, Version: 1},
			{Id: 5, Symbol: 1, Side: api.Sell, Qty: 20, Price: 2, Phase: api.Sent, Asked: true},
			{Id: 6, Account: 1, Symbol: 2, Side: api.Buy, Qty: 7, Price: 7, Phase: api.Sent},
		},
		Cells:  []api.Cell{{}, {Pos: 4, Buy: 8, Sell: 20, Open: 58}, {}, {}, {}, {Buy: 7, Open: 49}},
		Limits: []api.Expo{l, l, l, {Long: 11, Short: 12, Open: 13}, l, l},
		Caps:   []int64{1000, 49},
	}
	got, n, err := folds(t, begun(t, 2, 3, l, 1000), all())
	if !same(got, want) || n != 15 || err != api.OK {
		t.Errorf("%+v, %d, %d; want %+v", got, n, err, want)
	}
	expos := []api.Expo{{}, {Long: 12, Short: 16, Open: 58}, {}, {}, {}, {Long: 7, Open: 49}}
	if x := fold.Expos(got); !slices.Equal(x, expos) {
		t.Errorf("they may come to %+v; want %+v", x, expos)
	}
}

// P11.1: no records leave a state as it is, right or not.
func TestFoldNothing(t *testing.T) {
	for name, s := range map[string]api.State{
		"none":      {},
		"not right": {Accounts: -3, Orders: []api.Order{{Id: -1}}, Cells: []api.Cell{{Buy: -1}}, Caps: []int64{-1}, Last: 3, Seq: -4, Lsn: 5},
		"begun":     begun(t, 2, 3, api.Expo{Long: 1, Short: 2, Open: 3}, 4),
		"right":     does(t, wide(t, 2, 3), all()...),
	} {
		for _, l := range [][]api.Rec{nil, {}} {
			if got, n, err := folds(t, s, l); !same(got, s) || n != 0 || err != api.OK {
				t.Errorf("%s: %+v, %d, %d", name, got, n, err)
			}
		}
	}
}

// P11.1: a state that isn't right stays as it is, whatever is folded into it.
func TestFoldWrongState(t *testing.T) {
	whole := does(t, wide(t, 2, 3), all()...)
	for name, spoils := range map[string]func(s *api.State){
		"no accounts":      func(s *api.State) { s.Accounts = 0 },
		"a cell less":      func(s *api.State) { s.Cells = s.Cells[1:] },
		"a limit below 0":  func(s *api.State) { s.Limits[4].Open = -1 },
		"a cap below 0":    func(s *api.State) { s.Caps[1] = -1 },
		"an order less":    func(s *api.State) { s.Orders = s.Orders[1:] },
		"more open":        func(s *api.State) { s.Cells[1].Open++ },
		"another position": func(s *api.State) { s.Cells[2].Pos = least },
		"last below one":   func(s *api.State) { s.Last = 5 },
	} {
		s := copied(whole)
		spoils(&s)
		for _, l := range [][]api.Rec{{kills(false)}, {kills(false), kills(true)}, {tells(5, api.Ack, 5, 0, 0)}, {{}}, all()} {
			if got, n, err := folds(t, s, l); !same(got, s) || n != 0 || err != api.ErrArg {
				t.Errorf("%s: %+v, %d, %d", name, got, n, err)
			}
		}
		if x := fold.Expos(s); len(x) != 0 {
			t.Errorf("%s: may come to %+v", name, x)
		}
		if fold.Covers(s, whole) || fold.Covers(whole, s) || fold.Covers(s, s) {
			t.Errorf("%s: covers, or is covered", name)
		}
	}
}

// stops holds that records are folded up to one that may not be, wherever it stands, and none behind it.
func stops(t *testing.T, name string, s api.State, r api.Rec, want api.Errno) {
	t.Helper()
	// Turning the switch to what it is may always be done, and changes nothing but Lsn.
	turn := kills(s.Kill)
	for at := range 4 {
		for behind := range 3 {
			l := slices.Concat(slices.Repeat([]api.Rec{turn}, at), []api.Rec{r}, slices.Repeat([]api.Rec{turn}, behind))
			then := copied(s)
			then.Lsn += int64(at)
			if got, n, err := folds(t, s, l); !same(got, then) || n != at || err != want {
				t.Errorf("%s, %d ahead and %d behind: %+v, %d, %d; want %+v, %d", name, at, behind, got, n, err, then, want)
			}
		}
	}
}

// P11.1: each error that a record may tell ends it, and is told.
func TestFoldStops(t *testing.T) {
	s := does(t, begun(t, 2, 3, api.Expo{Long: 100, Short: 80, Open: 600}, 650), all()[:11]...)
	stops(t, "none", s, api.Rec{}, api.ErrArg)
	stops(t, "a kind that isn't", s, api.Rec{Kind: 7}, api.ErrArg)
	stops(t, "no quantity", s, buys(10, 0, 1), api.ErrArg)
	stops(t, "no such account", s, of(buys(10, 1, 1), 2, 0), api.ErrArg)
	stops(t, "no such symbol", s, of(buys(10, 1, 1), 0, 3), api.ErrArg)
	stops(t, "a number that was", s, buys(9, 1, 1), api.ErrArg)
	stops(t, "beyond all numbers", s, buys(10, 1<<32, 1<<32), api.ErrOver)
	stops(t, "above a limit", s, of(buys(10, 101, 1), 0, 0), api.ErrLimit)
	stops(t, "above a cap", s, of(buys(10, 1, 1), 1, 1), api.ErrLimit)
	stops(t, "to replace none", s, replaces(9, 1, 1), api.ErrNone)
	stops(t, "to cancel none", s, cancels(9), api.ErrNone)
	stops(t, "pending", s, replaces(3, 12, 2), api.ErrState)
	stops(t, "asked", s, cancels(5), api.ErrState)
	stops(t, "a gap", s, tells(5, api.Ack, 5, 0, 0), api.ErrGap)
	stops(t, "once more", s, tells(3, api.Reject, 9, 0, 0), api.ErrGap)
	stops(t, "the switch", does(t, s, kills(true)), buys(10, 1, 1), api.ErrKill)
	full := wide(t, 1, 1)
	for id := range int64(api.MaxOrders) {
		full = does(t, full, buys(id+1, 1, 1))
	}
	stops(t, "full", full, buys(100, 1, 1), api.ErrFull)
}

// P11.1: the last number that a record may have ends it too.
func TestFoldLastLsn(t *testing.T) {
	l := []api.Rec{kills(true), kills(false), kills(true), kills(false)}
	for left := range int64(5) {
		s := wide(t, 1, 1)
		s.Lsn = api.MaxLsn - left
		want := copied(s)
		want.Kill, want.Lsn = left%2 == 1, api.MaxLsn
		wantErr := api.ErrArg
		if left == 4 {
			wantErr = api.OK
		}
		if got, n, err := folds(t, s, l); !same(got, want) || n != int(left) || err != wantErr {
			t.Errorf("%d left: %+v, %d, %d; want %+v, %d", left, got, n, err, want, wantErr)
		}
	}
}

// P11.1: which error is told is the first one's, though others may not be done either.
func TestFoldFirst(t *testing.T) {
	s := wide(t, 1, 1)
	for _, x := range []struct {
		l    []api.Rec
		n    int
		want api.Errno
	}{
		{[]api.Rec{cancels(1), {}, buys(1, 1<<32, 1<<32)}, 0, api.ErrNone},
		{[]api.Rec{{}, cancels(1)}, 0, api.ErrArg},
		{[]api.Rec{buys(1, 1, 1), tells(2, api.Ack, 1, 0, 0), cancels(2)}, 1, api.ErrGap},
		{[]api.Rec{buys(1, 1, 1), cancels(1), cancels(1), tells(2, api.Ack, 1, 0, 0)}, 2, api.ErrState},
		{[]api.Rec{kills(true), buys(1, 1, 1), kills(false), buys(1, 1, 1)}, 1, api.ErrKill},
	} {
		got, n, err := folds(t, s, x.l)
		if n != x.n || err != x.want || !same(got, does(t, s, x.l[:x.n]...)) {
			t.Errorf("%+v: %+v, %d, %d; want %d, %d", x.l, got, n, err, x.n, x.want)
		}
	}
}
