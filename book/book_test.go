package book_test

import (
	"math"
	"slices"
	"testing"

	"snaffle/api"
	"snaffle/book"
)

// buys asks for an order to buy, of account and symbol 0.
func buys(id, qty, price int64) api.Rec {
	return api.Rec{Kind: api.New, Order: id, Side: api.Buy, Qty: qty, Price: price}
}

// sells is it with the other side.
func sells(r api.Rec) api.Rec {
	r.Side = api.Sell
	return r
}

// of is a record of another account and symbol.
func of(r api.Rec, account, symbol int) api.Rec {
	r.Account, r.Symbol = account, symbol
	return r
}

func replaces(id, qty, price int64) api.Rec {
	return api.Rec{Kind: api.Replace, Order: id, Qty: qty, Price: price}
}

func cancels(id int64) api.Rec { return api.Rec{Kind: api.Cancel, Order: id} }

func bounds(account, symbol int, long, short, open int64) api.Rec {
	return api.Rec{Kind: api.Bound, Account: account, Symbol: symbol, Long: long, Short: short, Open: open}
}

func kills(on bool) api.Rec { return api.Rec{Kind: api.Kill, On: on} }

func tells(seq int64, what int, id, qty, price int64) api.Rec {
	return api.Rec{Kind: api.Event, Seq: seq, What: what, Order: id, Qty: qty, Price: price}
}

// begun is a state with nothing but limits.
func begun(t *testing.T, accounts, symbols int, l api.Expo, cap int64) api.State {
	t.Helper()
	s, err := book.New(accounts, symbols, l, cap)
	if err != api.OK || !book.Right(s) {
		t.Fatalf("New(%d, %d, %+v, %d) = %+v, %d", accounts, symbols, l, cap, s, err)
	}
	return s
}

// wide is a state with limits that stand against nothing.
func wide(t *testing.T, accounts, symbols int) api.State {
	t.Helper()
	return begun(t, accounts, symbols, api.Expo{Long: most, Short: most, Open: most}, most)
}

// does records that may be done, one behind the other.
func does(t *testing.T, s api.State, l ...api.Rec) api.State {
	t.Helper()
	for _, r := range l {
		then, err := holds(t, s, r)
		if err != api.OK {
			t.Fatalf("%+v: %d; of %+v", r, err, s)
		}
		s = then
	}
	return s
}

// becomes a state by a record, with nothing but that changed, and one more Lsn.
func becomes(t *testing.T, s api.State, r api.Rec, change func(s *api.State)) api.State {
	t.Helper()
	want := copied(s)
	want.Lsn++
	change(&want)
	got := does(t, s, r)
	if !same(got, want) || !book.Right(got) {
		t.Fatalf("%+v makes %+v; want %+v", r, got, want)
	}
	return got
}

// refuses a record: a state stays as it is.
func refuses(t *testing.T, s api.State, r api.Rec, want api.Errno) {
	t.Helper()
	if got, err := holds(t, s, r); err != want || !same(got, s) {
		t.Errorf("%+v: %d; want %d; of %+v", r, err, want, s)
	}
}

// busy is a state of 2 accounts and 3 symbols with orders in all phases, something pending, and something had.
func busy(t *testing.T) api.State {
	t.Helper()
	s := begun(t, 2, 3, api.Expo{Long: 100, Short: 80, Open: 600}, 1000)
	return does(t, s,
		of(buys(3, 10, 3), 0, 1),
		of(sells(buys(5, 20, 2)), 0, 1),
		of(buys(6, 7, 7), 1, 2),
		buys(9, 4, 5),
		of(sells(buys(10, 8, 6)), 1, 2),
		tells(1, api.Ack, 3, 0, 0),
		tells(2, api.Ack, 5, 0, 0),
		tells(3, api.Ack, 10, 0, 0),
		tells(4, api.Fill, 3, 4, 0),
		tells(5, api.Fill, 10, 1, 0),
		replaces(3, 12, 2),
		cancels(5),
	)
}

// P10.3: what busy is, number by number, so that those that begin with it know with what.
func TestBusy(t *testing.T) {
	l := api.Expo{Long: 100, Short: 80, Open: 600}
	want := api.State{
		Accounts: 2, Symbols: 3, Last: 10, Seq: 5, Lsn: 12,
		Orders: []api.Order{
			{Id: 3, Symbol: 1, Side: api.Buy, Qty: 10, Price: 3, Filled: 4, Phase: api.Live, NewQty: 12, NewPrice: 2, Version: 1},
			{Id: 5, Symbol: 1, Side: api.Sell, Qty: 20, Price: 2, Phase: api.Live, Asked: true},
			{Id: 6, Account: 1, Symbol: 2, Side: api.Buy, Qty: 7, Price: 7, Phase: api.Sent},
			{Id: 9, Side: api.Buy, Qty: 4, Price: 5, Phase: api.Sent},
			{Id: 10, Account: 1, Symbol: 2, Side: api.Sell, Qty: 8, Price: 6, Filled: 1, Phase: api.Live},
		},
		Cells:  []api.Cell{{Buy: 4, Open: 20}, {Pos: 4, Buy: 8, Sell: 20, Open: 58}, {}, {}, {}, {Pos: -1, Buy: 7, Sell: 7, Open: 91}},
		Limits: []api.Expo{l, l, l, l, l, l},
		Caps:   []int64{1000, 1000},
	}
	if got := busy(t); !same(got, want) || !book.Right(got) {
		t.Errorf("%+v; want %+v", got, want)
	}
}

// P10.1: each part of a state makes it wrong by itself, at the first number that may not be.
func TestWrongByName(t *testing.T) {
	for name, spoils := range map[string]func(s *api.State){
		"no accounts":               func(s *api.State) { s.Accounts, s.Cells, s.Limits, s.Caps, s.Orders = 0, nil, nil, nil, nil },
		"no symbols":                func(s *api.State) { s.Symbols, s.Cells, s.Limits, s.Orders = 0, nil, nil, nil },
		"both below":                func(s *api.State) { s.Accounts, s.Symbols = -2, -3 },
		"accounts and symbols":      func(s *api.State) { s.Accounts, s.Symbols = 3, 2 },
		"a cell less":               func(s *api.State) { s.Cells = s.Cells[:5] },
		"a cell more":               func(s *api.State) { s.Cells = append(s.Cells, api.Cell{}) },
		"no cells":                  func(s *api.State) { s.Cells = nil },
		"a limit less":              func(s *api.State) { s.Limits = s.Limits[:5] },
		"a limit more":              func(s *api.State) { s.Limits = append(s.Limits, api.Expo{}) },
		"a cap less":                func(s *api.State) { s.Caps = s.Caps[:1] },
		"a cap more":                func(s *api.State) { s.Caps = append(s.Caps, 0) },
		"long below 0":              func(s *api.State) { s.Limits[0].Long = -1 },
		"short below 0":             func(s *api.State) { s.Limits[3].Short = -1 },
		"open below 0":              func(s *api.State) { s.Limits[5].Open = -1 },
		"a cap below 0":             func(s *api.State) { s.Caps[0] = -1 },
		"the last cap below 0":      func(s *api.State) { s.Caps[1] = -1 },
		"more to buy":               func(s *api.State) { s.Cells[1].Buy++ },
		"less to buy":               func(s *api.State) { s.Cells[1].Buy-- },
		"more to sell":              func(s *api.State) { s.Cells[5].Sell++ },
		"less to sell":              func(s *api.State) { s.Cells[5].Sell-- },
		"more open":                 func(s *api.State) { s.Cells[0].Open++ },
		"less open":                 func(s *api.State) { s.Cells[0].Open-- },
		"to buy where nothing is":   func(s *api.State) { s.Cells[2].Buy = 1 },
		"to sell where nothing is":  func(s *api.State) { s.Cells[3].Sell = 1 },
		"open where nothing is":     func(s *api.State) { s.Cells[4].Open = 1 },
		"cells in another order":    func(s *api.State) { s.Cells[0], s.Cells[1] = s.Cells[1], s.Cells[0] },
		"long beyond":               func(s *api.State) { s.Cells[1].Pos = most - 7 },
		"short beyond":              func(s *api.State) { s.Cells[1].Pos = -most + 19 },
		"the least position":        func(s *api.State) { s.Cells[2].Pos = least },
		"an order less":             func(s *api.State) { s.Orders = s.Orders[1:] },
		"no orders":                 func(s *api.State) { s.Orders = nil },
		"an order twice":            func(s *api.State) { s.Orders = slices.Insert(s.Orders, 1, s.Orders[0]) },
		"orders in another order":   func(s *api.State) { s.Orders[0], s.Orders[1] = s.Orders[1], s.Orders[0] },
		"one number for two":        func(s *api.State) { s.Orders[1].Id = 3 },
		"a number that falls":       func(s *api.State) { s.Orders[1].Id = 2 },
		"no number":                 func(s *api.State) { s.Orders[0].Id = 0 },
		"a number above the last":   func(s *api.State) { s.Last = 9 },
		"an order that isn't right": func(s *api.State) { s.Orders[0].Version = -1 },
		"of another account":        func(s *api.State) { s.Orders[0].Account = 1 },
		"of another symbol":         func(s *api.State) { s.Orders[0].Symbol = 0 },
		"of no account of these":    func(s *api.State) { s.Orders[0].Account = 2 },
		"of no symbol of these":     func(s *api.State) { s.Orders[0].Symbol = 3 },
		"of no account":             func(s *api.State) { s.Orders[0].Account = api.None },
		"of no symbol":              func(s *api.State) { s.Orders[0].Symbol = api.None },
		"more done":                 func(s *api.State) { s.Orders[0].Filled = 5 },
		"last below 0": func(s *api.State) {
			*s = api.State{Accounts: 1, Symbols: 1, Cells: s.Cells[2:3], Limits: s.Limits[2:3], Caps: s.Caps[:1], Last: -1}
		},
		"last above all": func(s *api.State) { s.Last = api.MaxId + 1 },
		"seq below 0":    func(s *api.State) { s.Seq = -1 },
		"seq above all":  func(s *api.State) { s.Seq = api.MaxLsn + 1 },
		"lsn below 0":    func(s *api.State) { s.Lsn = -1 },
		"lsn above all":  func(s *api.State) { s.Lsn = api.MaxLsn + 1 },
	} {
		s := copied(busy(t))
		spoils(&s)
		wrong(t, name, s)
	}
}

// wrong holds that a state isn't right, and that nothing is told of it, or done to it.
func wrong(t *testing.T, name string, s api.State) {
	t.Helper()
	if book.Right(s) || right(s) {
		t.Fatalf("%s: %+v is right", name, s)
	}
	for account := range 2 {
		if x, err := book.Expo(s, account, 1); x != (api.Expo{}) || err != api.ErrArg {
			t.Errorf("%s: Expo = %+v, %d", name, x, err)
		}
		if n, err := book.Open(s, account); n != 0 || err != api.ErrArg {
			t.Errorf("%s: Open = %d, %d", name, n, err)
		}
	}
	for _, r := range []api.Rec{
		of(buys(20, 1, 1), 1, 1), replaces(3, 1, 1), replaces(99, 1, 1), cancels(5), cancels(6), bounds(0, 1, 1, 1, 1),
		bounds(0, api.None, 0, 0, 1), kills(true), tells(6, api.Fill, 3, 1, 0), tells(9, api.Out, 3, 0, 0), {},
	} {
		refuses(t, s, r, api.ErrArg)
	}
}

// P10.1: what may be otherwise.
func TestRightByName(t *testing.T) {
	for name, change := range map[string]func(s *api.State){
		"busy":                   func(s *api.State) {},
		"another position":       func(s *api.State) { s.Cells[1].Pos = -9 },
		"a position elsewhere":   func(s *api.State) { s.Cells[2].Pos = most },
		"the least one that is":  func(s *api.State) { s.Cells[2].Pos = -most },
		"long as much as it may": func(s *api.State) { s.Cells[1].Pos = most - 8 },
		"short likewise":         func(s *api.State) { s.Cells[1].Pos = -most + 20 },
		"limits of 0":            func(s *api.State) { clear(s.Limits) },
		"the greatest limits":    func(s *api.State) { s.Limits[1] = api.Expo{Long: most, Short: most, Open: most} },
		"caps of 0":              func(s *api.State) { clear(s.Caps) },
		"the greatest cap":       func(s *api.State) { s.Caps[1] = most },
		"the switch":             func(s *api.State) { s.Kill = true },
		"a greater last":         func(s *api.State) { s.Last = api.MaxId },
		"the first seq":          func(s *api.State) { s.Seq = 0 },
		"the last seq":           func(s *api.State) { s.Seq = api.MaxLsn },
		"the first lsn":          func(s *api.State) { s.Lsn = 0 },
		"the last lsn":           func(s *api.State) { s.Lsn = api.MaxLsn },
		"another version":        func(s *api.State) { s.Orders[0].Version = most },
		"an order that may grow": func(s *api.State) { s.Orders[0].NewPrice = 1 },
	} {
		s := copied(busy(t))
		change(&s)
		if !book.Right(s) || !right(s) {
			t.Errorf("%s: %+v isn't right", name, s)
		}
	}
	if book.Right(api.State{}) {
		t.Error("nothing is right")
	}
	s := begun(t, 1, 1, api.Expo{}, 0)
	s.Orders = []api.Order{}
	if !book.Right(s) {
		t.Error("a list that is empty isn't as one that is nil")
	}
}

// P10.1: an order that is Done stands in no state, though it makes nothing of its cell.
func TestDoneIsWrong(t *testing.T) {
	for _, o := range []api.Order{
		{Id: 20, Side: api.Buy, Qty: 10, Price: 3, Filled: 10, Phase: api.Done},
		{Id: 20, Side: api.Sell, Qty: 10, Price: 3, Phase: api.Done},
	} {
		s := copied(busy(t))
		s.Last, s.Orders = 20, append(s.Orders, o)
		wrong(t, "done", s)
	}
}

// P10.1: what is open together is a number, of each account, but not of two accounts.
func TestRightTogether(t *testing.T) {
	half := int64(1 << 62)
	for name, x := range map[string]struct {
		worth    [3]int64
		accounts [3]int
		want     bool
	}{
		"as much as there is":      {[3]int64{half, half - 2, 1}, [3]int{0, 0, 0}, true},
		"one more":                 {[3]int64{half, half - 2, 2}, [3]int{0, 0, 0}, false},
		"much more":                {[3]int64{half, half, half}, [3]int{0, 0, 0}, false},
		"one more, of the second":  {[3]int64{half, half - 2, 2}, [3]int{1, 1, 1}, false},
		"as much, of the last":     {[3]int64{half, half - 2, 1}, [3]int{2, 2, 2}, true},
		"one more, of the last":    {[3]int64{half, half - 2, 2}, [3]int{2, 2, 2}, false},
		"more, but of two of them": {[3]int64{half, half - 2, most}, [3]int{0, 0, 1}, true},
		"more, and of all":         {[3]int64{most, most, most}, [3]int{0, 1, 2}, true},
	} {
		s := wide(t, 3, 3)
		s.Last = 3
		for i, n := range x.worth {
			s.Orders = append(s.Orders, api.Order{Id: int64(i + 1), Account: x.accounts[i], Symbol: i, Side: api.Buy, Qty: 1, Price: n, Phase: api.Sent})
			s.Cells[x.accounts[i]*3+i] = api.Cell{Buy: 1, Open: n}
		}
		if got := book.Right(s); got != x.want || right(s) != x.want {
			t.Errorf("%s: Right(%+v) = %v", name, s, got)
		}
	}
}

// P10.1: orders whose worth, or whose sum, is none of the numbers that there are, stand in no state, whatever its cells
// have.
func TestWrongWorth(t *testing.T) {
	for _, l := range [][]api.Order{
		{{Id: 1, Side: api.Buy, Qty: 1 << 62, Price: 2, Phase: api.Sent}},
		{{Id: 1, Side: api.Buy, Qty: 1 << 62, Price: 4, Phase: api.Sent}},
		{{Id: 1, Side: api.Buy, Qty: most, Price: 1, Phase: api.Sent}, {Id: 2, Side: api.Buy, Qty: 2, Price: 1, Phase: api.Sent}},
		{{Id: 1, Side: api.Buy, Qty: most, Price: 1, Phase: api.Sent}, {Id: 2, Side: api.Sell, Qty: 1, Price: 1, Phase: api.Sent}},
	} {
		for _, c := range []api.Cell{
			{}, {Buy: 1 << 62}, {Buy: most, Open: most}, {Buy: most, Sell: 1, Open: most}, {Buy: 1, Open: 1},
			{Buy: least + 1, Open: least + 1}, {Buy: most, Sell: 1, Open: least},
		} {
			s := wide(t, 1, 1)
			s.Last, s.Orders, s.Cells[0] = 9, l, c
			if book.Right(s) || right(s) {
				t.Errorf("%+v is right", s)
			}
		}
	}
}

// P10.1: as many orders as there may be.
func TestRightManyOrders(t *testing.T) {
	s := wide(t, 1, 2)
	for id := range int64(api.MaxOrders) {
		s = does(t, s, of(buys(id+1, 1, 1), 0, int(id)%2))
	}
	if !book.Right(s) || len(s.Orders) != api.MaxOrders || s.Cells[0] != (api.Cell{Buy: 32, Open: 32}) {
		t.Errorf("%+v", s)
	}
	refuses(t, s, buys(65, 1, 1), api.ErrFull)
	s.Last, s.Cells[0].Buy, s.Cells[0].Open = 65, 33, 33
	s.Orders = append(s.Orders, api.Order{Id: 65, Side: api.Buy, Qty: 1, Price: 1, Phase: api.Sent})
	wrong(t, "65 orders", s)
}

// P10.1: a state of each size that may be has nothing but limits, and caps; of others there is none.
func TestNewOfEachSize(t *testing.T) {
	l := api.Expo{Long: 5, Short: 6, Open: 7}
	sizes := []int{math.MinInt, -8, -1, 0, 1, 2, 3, 4, 5, 6, 7, 8, 9, 64, 1 << 32, 1 << 62, math.MaxInt}
	for _, accounts := range sizes {
		for _, symbols := range sizes {
			s, err := book.New(accounts, symbols, l, 8)
			if min(accounts, symbols) < 1 || max(accounts, symbols) > 8 {
				if err != api.ErrArg || !same(s, api.State{}) {
					t.Errorf("New(%d, %d) = %+v, %d", accounts, symbols, s, err)
				}
				continue
			}
			want := api.State{Accounts: accounts, Symbols: symbols}
			for range accounts {
				want.Caps = append(want.Caps, 8)
				for range symbols {
					want.Cells, want.Limits = append(want.Cells, api.Cell{}), append(want.Limits, l)
				}
			}
			if err != api.OK || !same(s, want) || !book.Right(s) {
				t.Errorf("New(%d, %d) = %+v, %d", accounts, symbols, s, err)
			}
			// Each is new: whoever changes one changes no other.
			spoil(s)
			if s, err := book.New(accounts, symbols, l, 8); err != api.OK || !same(s, want) {
				t.Errorf("New(%d, %d) = %+v, %d, once more", accounts, symbols, s, err)
			}
		}
	}
}

// P10.1: limits and a cap of 0, the greatest ones, and such as may not be, each by itself.
func TestNewOfLimits(t *testing.T) {
	for _, x := range []struct {
		l    api.Expo
		cap  int64
		want api.Errno
	}{
		{api.Expo{}, 0, api.OK},
		{api.Expo{Long: most, Short: most, Open: most}, most, api.OK},
		{api.Expo{Long: 1}, 0, api.OK},
		{api.Expo{Long: -1}, 0, api.ErrArg},
		{api.Expo{Short: -1}, 0, api.ErrArg},
		{api.Expo{Open: -1}, 0, api.ErrArg},
		{api.Expo{}, -1, api.ErrArg},
		{api.Expo{Long: least}, 9, api.ErrArg},
		{api.Expo{Long: 9, Short: 9, Open: 9}, least, api.ErrArg},
	} {
		s, err := book.New(2, 1, x.l, x.cap)
		if err != x.want || err == api.OK && (s.Limits[1] != x.l || s.Caps[1] != x.cap) || err != api.OK && !same(s, api.State{}) {
			t.Errorf("New(%+v, %d) = %+v, %d; want %d", x.l, x.cap, s, err, x.want)
		}
	}
}

// P10.2: the cells stand account by account, in it symbol by symbol.
func TestPlace(t *testing.T) {
	for accounts := range 9 {
		for symbols := range 9 {
			s := api.State{Accounts: accounts, Symbols: symbols}
			for account := -2; account < 10; account++ {
				for symbol := -2; symbol < 10; symbol++ {
					want := account*symbols + symbol
					if min(account, symbol) < 0 || account >= accounts || symbol >= symbols {
						want = -1
					}
					if got := book.Place(s, account, symbol); got != want {
						t.Errorf("Place(%d of %d, %d of %d) = %d", account, accounts, symbol, symbols, got)
					}
				}
			}
		}
	}
	s := begun(t, 2, 3, api.Expo{}, 0)
	for _, n := range []int{math.MinInt, math.MaxInt, 1 << 32, 1 << 62} {
		if book.Place(s, n, 0) != api.None || book.Place(s, 0, n) != api.None || book.Place(s, n, n) != api.None {
			t.Errorf("a place of %d", n)
		}
	}
}

// P10.2: an order is found by its number, in any state; the first one of them.
func TestFind(t *testing.T) {
	s := busy(t)
	for id, want := range map[int64]int{3: 0, 5: 1, 6: 2, 9: 3, 10: 4, 0: -1, 1: -1, 4: -1, 11: -1, -3: -1, most: -1, least: -1} {
		if got := book.Find(s, id); got != want {
			t.Errorf("Find(%d) = %d", id, got)
		}
	}
	odd := api.State{Orders: []api.Order{{Id: 9}, {Id: -4}, {Id: 2}, {}, {Id: -4, Qty: 1}, {Id: 2}, {}}}
	for id, want := range map[int64]int{9: 0, -4: 1, 2: 2, 0: 3, 1: -1} {
		if got := book.Find(odd, id); got != want {
			t.Errorf("Find(%d) = %d, of orders that aren't right", id, got)
		}
	}
	if book.Find(api.State{}, 0) != api.None {
		t.Error("an order of none")
	}
}

// P10.2: what a cell may come to, and what is open of an account together.
func TestExpoAndOpen(t *testing.T) {
	s := busy(t)
	want := []api.Expo{{Long: 4, Open: 20}, {Long: 12, Short: 16, Open: 58}, {}, {}, {}, {Long: 6, Short: 8, Open: 91}}
	for i, x := range want {
		if got, err := book.Expo(s, i/3, i%3); got != x || err != api.OK {
			t.Errorf("Expo of cell %d = %+v, %d", i, got, err)
		}
	}
	for account, n := range []int64{78, 91} {
		if got, err := book.Open(s, account); got != n || err != api.OK {
			t.Errorf("Open(%d) = %d, %d", account, got, err)
		}
	}
	for _, n := range []int{math.MinInt, -1, 3, 8, 1 << 32, math.MaxInt} {
		for _, x := range [][2]int{{n, 0}, {0, n}, {n, n}, {n, -1}, {2, 0}} {
			if got, err := book.Expo(s, x[0], x[1]); got != (api.Expo{}) || err != api.ErrArg {
				t.Errorf("Expo(%v) = %+v, %d", x, got, err)
			}
		}
		if got, err := book.Open(s, n); got != 0 || err != api.ErrArg {
			t.Errorf("Open(%d) = %d, %d", n, got, err)
		}
	}
	if got, err := book.Open(s, 2); got != 0 || err != api.ErrArg {
		t.Errorf("Open(2) = %d, %d", got, err)
	}
}

// P10.3: an order begins behind all others, and comes to its cell.
func TestDoNew(t *testing.T) {
	s := busy(t)
	s = becomes(t, s, of(buys(11, 5, 6), 1, 0), func(s *api.State) {
		s.Last = 11
		s.Orders = append(s.Orders, api.Order{Id: 11, Account: 1, Side: api.Buy, Qty: 5, Price: 6, Phase: api.Sent})
		s.Cells[3] = api.Cell{Buy: 5, Open: 30}
	})
	s = becomes(t, s, of(sells(buys(20, 2, 9)), 0, 1), func(s *api.State) {
		s.Last = 20
		s.Orders = append(s.Orders, api.Order{Id: 20, Symbol: 1, Side: api.Sell, Qty: 2, Price: 9, Phase: api.Sent})
		s.Cells[1] = api.Cell{Pos: 4, Buy: 8, Sell: 22, Open: 76}
	})
	refuses(t, s, of(buys(20, 1, 1), 1, 0), api.ErrArg)
	refuses(t, s, of(buys(19, 1, 1), 1, 0), api.ErrArg)
	s.Last = api.MaxId - 1
	s = becomes(t, s, of(buys(api.MaxId, 1, 1), 1, 0), func(s *api.State) {
		s.Last = api.MaxId
		s.Orders = append(s.Orders, api.Order{Id: api.MaxId, Account: 1, Side: api.Buy, Qty: 1, Price: 1, Phase: api.Sent})
		s.Cells[3] = api.Cell{Buy: 6, Open: 31}
	})
	refuses(t, s, buys(api.MaxId, 1, 1), api.ErrArg)
	refuses(t, s, buys(api.MaxId+1, 1, 1), api.ErrArg)
}

// P10.3: an order that is changed goes from its cell, and comes again; what is less leaves what there was.
func TestDoReplace(t *testing.T) {
	s := busy(t)
	s = becomes(t, s, replaces(10, 9, 7), func(s *api.State) {
		s.Orders[4].NewQty, s.Orders[4].NewPrice, s.Orders[4].Version = 9, 7, 1
		s.Cells[5] = api.Cell{Pos: -1, Buy: 7, Sell: 8, Open: 105}
	})
	refuses(t, s, replaces(10, 9, 7), api.ErrState)
	s = becomes(t, s, tells(6, api.Refused, 10, 0, 0), func(s *api.State) {
		s.Seq = 6
		s.Orders[4].NewQty, s.Orders[4].NewPrice = 0, 0
		s.Cells[5] = api.Cell{Pos: -1, Buy: 7, Sell: 7, Open: 91}
	})
	becomes(t, s, replaces(10, 1, 1), func(s *api.State) {
		s.Orders[4].NewQty, s.Orders[4].NewPrice, s.Orders[4].Version = 1, 1, 2
	})
	s.Orders[4].Version = most
	refuses(t, s, replaces(10, 1, 1), api.ErrState)
}

// P10.3: an order is to end, whatever its phase, and whatever is pending; once.
func TestDoCancel(t *testing.T) {
	s := busy(t)
	for i, id := range []int64{3, 5, 6, 9, 10} {
		if id != 5 {
			s = becomes(t, s, cancels(id), func(s *api.State) { s.Orders[i].Asked = true })
		}
		refuses(t, s, cancels(id), api.ErrState)
	}
	for _, id := range []int64{1, 4, 11, api.MaxId} {
		refuses(t, s, cancels(id), api.ErrNone)
	}
}

// P10.3: a cell's limit, or an account's cap, are others; only these, and they may be below what there is.
func TestDoBound(t *testing.T) {
	s := busy(t)
	for account := range 2 {
		for symbol := range 3 {
			s = becomes(t, s, bounds(account, symbol, 1, 2, 3), func(s *api.State) {
				s.Limits[account*3+symbol] = api.Expo{Long: 1, Short: 2, Open: 3}
			})
		}
		s = becomes(t, s, bounds(account, api.None, 0, 0, 4), func(s *api.State) { s.Caps[account] = 4 })
	}
	s = becomes(t, s, bounds(0, 1, 0, 0, 0), func(s *api.State) { s.Limits[1] = api.Expo{} })
	s = becomes(t, s, bounds(1, api.None, 0, 0, 0), func(s *api.State) { s.Caps[1] = 0 })
	s = becomes(t, s, bounds(1, 2, most, most, most), func(s *api.State) { s.Limits[5] = api.Expo{Long: most, Short: most, Open: most} })
	becomes(t, s, bounds(0, api.None, 0, 0, most), func(s *api.State) { s.Caps[0] = most })
}

// P10.3: the switch is turned on, and stays so; off, and stays so.
func TestDoKill(t *testing.T) {
	s := busy(t)
	for _, on := range []bool{false, true, true, false, false, true} {
		s = becomes(t, s, kills(on), func(s *api.State) { s.Kill = on })
	}
}

// P10.3: notes of an order's life, each of which it can take.
func TestDoEvents(t *testing.T) {
	s := busy(t)
	s = becomes(t, s, tells(6, api.Ack, 6, 0, 0), func(s *api.State) { s.Seq, s.Orders[2].Phase = 6, api.Live })
	s = becomes(t, s, tells(7, api.Fill, 3, 2, 0), func(s *api.State) {
		s.Seq, s.Orders[0].Filled = 7, 6
		s.Cells[1] = api.Cell{Pos: 6, Buy: 6, Sell: 20, Open: 52}
	})
	s = becomes(t, s, tells(8, api.Fill, 5, 15, 0), func(s *api.State) {
		s.Seq, s.Orders[1].Filled = 8, 15
		s.Cells[1] = api.Cell{Pos: -9, Buy: 6, Sell: 5, Open: 22}
	})
	s = becomes(t, s, tells(9, api.Replaced, 3, 12, 2), func(s *api.State) {
		s.Seq = 9
		s.Orders[0] = api.Order{Id: 3, Symbol: 1, Side: api.Buy, Qty: 12, Price: 2, Filled: 6, Phase: api.Live, Version: 1}
	})
	s = becomes(t, s, tells(10, api.Fill, 5, 5, 0), func(s *api.State) {
		s.Seq, s.Orders = 10, slices.Delete(s.Orders, 1, 2)
		s.Cells[1] = api.Cell{Pos: -14, Buy: 6, Open: 12}
	})
	s = becomes(t, s, tells(11, api.Reject, 9, 0, 0), func(s *api.State) {
		s.Seq, s.Orders, s.Cells[0] = 11, slices.Delete(s.Orders, 2, 3), api.Cell{}
	})
	s = becomes(t, s, tells(12, api.Out, 10, 0, 0), func(s *api.State) {
		s.Seq, s.Orders, s.Cells[5] = 12, s.Orders[:2], api.Cell{Pos: -1, Buy: 7, Open: 49}
	})
	s = becomes(t, s, tells(13, api.Out, 3, 0, 0), func(s *api.State) {
		s.Seq, s.Orders, s.Cells[1] = 13, s.Orders[1:], api.Cell{Pos: -14}
	})
	s = becomes(t, s, tells(14, api.Fill, 6, 7, 0), func(s *api.State) {
		s.Seq, s.Orders, s.Cells[5] = 14, nil, api.Cell{Pos: 6}
	})
	// Numbers that were once are none again.
	refuses(t, s, buys(10, 1, 1), api.ErrArg)
	does(t, s, buys(11, 1, 1))
}

// P10.3: what an order can't take, or what none is there for, is heard, and nothing else.
func TestDoEventsNot(t *testing.T) {
	s := busy(t)
	for _, x := range []struct {
		what       int
		id         int64
		qty, price int64
	}{
		{api.Ack, 3, 0, 0}, {api.Reject, 3, 0, 0}, {api.Fill, 3, 7, 0}, {api.Fill, 3, most, 0},
		{api.Replaced, 3, 11, 2}, {api.Replaced, 3, 12, 3}, {api.Replaced, 10, 8, 6}, {api.Refused, 10, 0, 0},
		{api.Fill, 6, 1, 0}, {api.Out, 6, 0, 0}, {api.Refused, 6, 0, 0}, {api.Replaced, 6, 7, 7},
		{api.Ack, 99, 0, 0}, {api.Reject, 1, 0, 0}, {api.Fill, 4, 1, 0}, {api.Out, 99, 0, 0}, {api.Replaced, 99, 1, 1}, {api.Refused, api.MaxId, 0, 0},
	} {
		s = becomes(t, s, tells(s.Seq+1, x.what, x.id, x.qty, x.price), func(s *api.State) { s.Seq++ })
	}
}

// P10.3: an event whose turn it isn't is none, whatever the order; one whose turn it is, is done up to the last one.
func TestDoEventsInTurn(t *testing.T) {
	s := busy(t)
	for _, seq := range []int64{1, 4, 5, 7, 8, api.MaxLsn} {
		refuses(t, s, tells(seq, api.Fill, 3, 1, 0), api.ErrGap)
		refuses(t, s, tells(seq, api.Out, 99, 0, 0), api.ErrGap)
	}
	refuses(t, s, tells(0, api.Out, 3, 0, 0), api.ErrArg)
	refuses(t, s, tells(api.MaxLsn+1, api.Out, 3, 0, 0), api.ErrArg)
	s.Seq = api.MaxLsn - 1
	s = becomes(t, s, tells(api.MaxLsn, api.Out, 99, 0, 0), func(s *api.State) { s.Seq = api.MaxLsn })
	refuses(t, s, tells(api.MaxLsn, api.Out, 99, 0, 0), api.ErrGap)
	refuses(t, s, tells(1, api.Out, 99, 0, 0), api.ErrGap)
	refuses(t, s, tells(api.MaxLsn+1, api.Out, 99, 0, 0), api.ErrArg)
}

// P10.3: records that may not be, of a state that is right.
func TestMayArg(t *testing.T) {
	s := busy(t)
	s.Kill = true
	for _, r := range []api.Rec{
		{}, {Kind: -1}, {Kind: 7}, {Kind: api.Kill, Order: 1}, cancels(0), cancels(api.MaxId + 1), replaces(3, 0, 1), replaces(3, 1, 0),
		buys(11, 0, 1), buys(11, 1, 0), buys(11, -1, 1), buys(0, 1, 1), buys(10, 1, 1), buys(3, 1, 1), buys(4, 1, 1),
		of(buys(11, 1, 1), 2, 0), of(buys(11, 1, 1), 0, 3), of(buys(11, 1, 1), 7, 7), of(buys(11, 1, 1), 8, 0),
		of(buys(11, 1, 1), api.None, 0), of(buys(11, 1, 1), 0, api.None),
		bounds(2, 0, 1, 1, 1), bounds(0, 3, 1, 1, 1), bounds(2, api.None, 0, 0, 1), bounds(7, api.None, 0, 0, 1),
		bounds(0, -2, 0, 0, 1), bounds(api.None, 0, 1, 1, 1), bounds(0, api.None, 1, 0, 1), bounds(0, api.None, 0, 1, 1),
		bounds(0, 0, -1, 1, 1), bounds(0, 0, 1, -1, 1), bounds(0, 0, 1, 1, -1), bounds(0, api.None, 0, 0, -1),
		tells(6, 0, 3, 0, 0), tells(6, 7, 3, 0, 0), tells(6, api.Fill, 3, 0, 0), tells(9, api.Fill, 3, 0, 0), tells(6, api.Ack, 0, 0, 0),
	} {
		refuses(t, s, r, api.ErrArg)
	}
}

// P10.3: behind the last record that there may be, nothing is done; it is itself.
func TestMayLast(t *testing.T) {
	s := busy(t)
	for _, r := range []api.Rec{
		of(buys(11, 1, 1), 1, 0), replaces(10, 1, 1), cancels(3), bounds(0, 0, 1, 1, 1), bounds(0, api.None, 0, 0, 1),
		kills(true), tells(6, api.Fill, 3, 1, 0),
	} {
		s.Lsn = api.MaxLsn - 1
		if got := does(t, s, r); got.Lsn != api.MaxLsn {
			t.Errorf("%+v: Lsn %d", r, got.Lsn)
		}
		s.Lsn = api.MaxLsn
		refuses(t, s, r, api.ErrArg)
	}
	for _, r := range []api.Rec{replaces(99, 1, 1), cancels(99), cancels(5), replaces(6, 1, 1), tells(9, api.Out, 3, 0, 0)} {
		refuses(t, s, r, api.ErrArg)
	}
}

// P10.3: where several errors apply, the first one that the chapter names.
func TestMayInTurn(t *testing.T) {
	s := begun(t, 2, 2, api.Expo{Long: 70, Short: 70, Open: 70}, 100)
	for id := range int64(api.MaxOrders) {
		s = does(t, s, buys(id+1, 1, 1))
	}
	s = does(t, s, tells(1, api.Ack, 1, 0, 0), tells(2, api.Ack, 2, 0, 0), tells(3, api.Ack, 3, 0, 0), tells(4, api.Ack, 4, 0, 0),
		replaces(2, 2, 1), cancels(3))
	on := does(t, s, kills(true))
	over, beyond := buys(65, 1<<62, 4), buys(65, 71, 1)
	for _, r := range []api.Rec{over, beyond, buys(65, 1, 1)} {
		refuses(t, on, r, api.ErrKill)
		refuses(t, s, r, api.ErrFull)
		refuses(t, on, of(r, 2, 0), api.ErrArg)
	}
	s, on = does(t, s, tells(5, api.Reject, 64, 0, 0)), does(t, on, tells(5, api.Reject, 64, 0, 0))
	refuses(t, on, over, api.ErrKill)
	refuses(t, s, over, api.ErrOver)
	refuses(t, s, beyond, api.ErrLimit)
	for _, x := range [][2]int64{{1, 1}, {71, 1}, {1 << 62, 4}} {
		qty, price := x[0], x[1]
		for _, s := range []api.State{s, on} {
			refuses(t, s, replaces(64, qty, price), api.ErrNone)
			refuses(t, s, replaces(65, qty, price), api.ErrNone)
			refuses(t, s, replaces(2, qty, price), api.ErrState)
			refuses(t, s, replaces(3, qty, price), api.ErrState)
			refuses(t, s, replaces(5, qty, price), api.ErrState)
		}
		refuses(t, on, replaces(1, qty, price), api.ErrKill)
	}
	refuses(t, s, replaces(1, 1<<62, 4), api.ErrOver)
	refuses(t, s, replaces(1, 71, 1), api.ErrLimit)
	refuses(t, on, cancels(64), api.ErrNone)
	refuses(t, on, cancels(3), api.ErrState)
	// The switch stands against nothing but what is asked for anew.
	does(t, on, cancels(1), tells(6, api.Fill, 1, 1, 0), bounds(0, 0, 1, 1, 1), kills(false))
}
