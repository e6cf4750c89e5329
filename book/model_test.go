package book_test

import (
	"math"
	"math/big"
	"slices"
	"testing"

	"snaffle/api"
	"snaffle/book"
	"snaffle/order"
	"snaffle/rec"
)

// What the chapter says, told otherwise: cells are made anew from all orders, in whole numbers without bounds.

const (
	most  = math.MaxInt64
	least = math.MinInt64
)

// copied is a state with lists of its own.
func copied(s api.State) api.State {
	s.Orders, s.Cells = slices.Clone(s.Orders), slices.Clone(s.Cells)
	s.Limits, s.Caps = slices.Clone(s.Limits), slices.Clone(s.Caps)
	return s
}

// same: are all fields of two states the same, a list being nil or empty alike?
func same(a, b api.State) bool {
	return a.Accounts == b.Accounts && a.Symbols == b.Symbols &&
		slices.Equal(a.Orders, b.Orders) && slices.Equal(a.Cells, b.Cells) &&
		slices.Equal(a.Limits, b.Limits) && slices.Equal(a.Caps, b.Caps) &&
		a.Kill == b.Kill && a.Last == b.Last && a.Seq == b.Seq && a.Lsn == b.Lsn
}

// among: is a number from one to another?
func among(n, from, to int64) bool { return n >= from && n <= to }

// sums are what orders of an account and a symbol have together; ok: each of them has a worth.
type sums struct {
	buy, sell, open *big.Int
	ok              bool
}

func sumsOf(l []api.Order, account, symbol int) sums {
	w := sums{new(big.Int), new(big.Int), new(big.Int), true}
	for _, o := range l {
		if o.Account != account || o.Symbol != symbol {
			continue
		}
		worth, err := order.Worth(o)
		w.ok = w.ok && err == api.OK
		w.open.Add(w.open, big.NewInt(worth))
		if o.Side == api.Buy {
			w.buy.Add(w.buy, big.NewInt(order.Open(o)))
		} else {
			w.sell.Add(w.sell, big.NewInt(order.Open(o)))
		}
	}
	return w
}

// come is what a cell of these sums and such a position may come to.
func (w sums) come(pos *big.Int) [3]*big.Int {
	return [3]*big.Int{new(big.Int).Add(pos, w.buy), new(big.Int).Sub(w.sell, pos), w.open}
}

// cellWith such a position; false: it would be none that is right.
func (w sums) cellWith(pos *big.Int) (api.Cell, bool) {
	x := w.come(pos)
	for _, n := range []*big.Int{pos, w.buy, w.sell, w.open, x[0], x[1], x[2]} {
		if !n.IsInt64() {
			return api.Cell{}, false
		}
	}
	return api.Cell{Pos: pos.Int64(), Buy: w.buy.Int64(), Sell: w.sell.Int64(), Open: w.open.Int64()}, w.ok
}

// together is what is open of an account, however much.
func together(s api.State, account int) *big.Int {
	sum := new(big.Int)
	for symbol := range s.Symbols {
		sum.Add(sum, sumsOf(s.Orders, account, symbol).open)
	}
	return sum
}

// right is what the chapter says of a state.
func right(s api.State) bool {
	if !among(int64(s.Accounts), 1, 8) || !among(int64(s.Symbols), 1, 8) ||
		len(s.Cells) != s.Accounts*s.Symbols || len(s.Limits) != len(s.Cells) || len(s.Caps) != s.Accounts || len(s.Orders) > 64 ||
		!among(s.Last, 0, 1e12) || !among(s.Seq, 0, 1e9) || !among(s.Lsn, 0, 1e9) {
		return false
	}
	for i, o := range s.Orders {
		if !order.Right(o) || o.Phase == api.Done || o.Account >= s.Accounts || o.Symbol >= s.Symbols || o.Id > s.Last ||
			i > 0 && o.Id <= s.Orders[i-1].Id {
			return false
		}
	}
	for i, c := range s.Cells {
		made, ok := sumsOf(s.Orders, i/s.Symbols, i%s.Symbols).cellWith(big.NewInt(c.Pos))
		if l := s.Limits[i]; !ok || made != c || min(l.Long, l.Short, l.Open) < 0 {
			return false
		}
	}
	for account, c := range s.Caps {
		if c < 0 || !together(s, account).IsInt64() {
			return false
		}
	}
	return true
}

// place of an order, among orders; -1: none.
func place(l []api.Order, id int64) int {
	return slices.IndexFunc(l, func(o api.Order) bool { return o.Id == id })
}

// done is what the chapter says of a record that is done, or may not be.
func done(s api.State, r api.Rec) (api.State, api.Errno) {
	if !right(s) || !rec.Right(r) || s.Lsn == 1e9 ||
		(r.Kind == api.New || r.Kind == api.Bound) && (r.Account >= s.Accounts || r.Symbol >= s.Symbols) ||
		r.Kind == api.New && r.Order <= s.Last {
		return s, api.ErrArg
	}
	then := copied(s)
	then.Lsn++
	err := api.OK
	switch r.Kind {
	case api.New:
		err = doneNew(&then, r)
	case api.Replace:
		err = doneReplace(&then, r)
	case api.Cancel:
		err = doneCancel(&then, r)
	case api.Bound:
		if r.Symbol < 0 {
			then.Caps[r.Account] = r.Open
		} else {
			then.Limits[r.Account*s.Symbols+r.Symbol] = api.Expo{Long: r.Long, Short: r.Short, Open: r.Open}
		}
	case api.Kill:
		then.Kill = r.On
	case api.Event:
		if r.Seq-s.Seq != 1 {
			return s, api.ErrGap
		}
		doneEvent(&then, r)
	}
	if err != api.OK {
		return s, err
	}
	return then, api.OK
}

func doneNew(s *api.State, r api.Rec) api.Errno {
	if s.Kill {
		return api.ErrKill
	}
	if len(s.Orders) == 64 {
		return api.ErrFull
	}
	was := copied(*s)
	s.Last = r.Order
	s.Orders = append(s.Orders, api.Order{
		Id: r.Order, Account: r.Account, Symbol: r.Symbol, Side: r.Side, Qty: r.Qty, Price: r.Price, Phase: api.Sent,
	})
	return asked(was, s, r.Account, r.Symbol)
}

func doneReplace(s *api.State, r api.Rec) api.Errno {
	i := place(s.Orders, r.Order)
	if i < 0 {
		return api.ErrNone
	}
	o, err := order.Change(s.Orders[i], r.Qty, r.Price)
	if err != api.OK {
		return api.ErrState
	}
	if s.Kill {
		return api.ErrKill
	}
	was := copied(*s)
	s.Orders[i] = o
	return asked(was, s, o.Account, o.Symbol)
}

// asked is what the chapter says of a state whose orders are so then: the cell is made anew.
func asked(was api.State, s *api.State, account, symbol int) api.Errno {
	at := account*s.Symbols + symbol
	pos := big.NewInt(s.Cells[at].Pos)
	before, now := sumsOf(was.Orders, account, symbol), sumsOf(s.Orders, account, symbol)
	c, ok := now.cellWith(pos)
	if !ok || !together(*s, account).IsInt64() {
		return api.ErrOver
	}
	s.Cells[at] = c
	l := s.Limits[at]
	for i, top := range []int64{l.Long, l.Short, l.Open} {
		if beyond(before.come(pos)[i], now.come(pos)[i], top) {
			return api.ErrLimit
		}
	}
	if beyond(together(was, account), together(*s, account), s.Caps[account]) {
		return api.ErrLimit
	}
	return api.OK
}

// beyond: is it more than it was, and more than the top?
func beyond(was, now *big.Int, top int64) bool {
	return now.Cmp(was) > 0 && now.Cmp(big.NewInt(top)) > 0
}

func doneCancel(s *api.State, r api.Rec) api.Errno {
	i := place(s.Orders, r.Order)
	if i < 0 {
		return api.ErrNone
	}
	if s.Orders[i].Asked {
		return api.ErrState
	}
	s.Orders[i].Asked = true
	return api.OK
}

func doneEvent(s *api.State, r api.Rec) {
	s.Seq = r.Seq
	i := place(s.Orders, r.Order)
	if i < 0 {
		return
	}
	o, err := order.Take(s.Orders[i], api.Note{Seq: r.Seq, What: r.What, Order: r.Order, Qty: r.Qty, Price: r.Price})
	if err != api.OK {
		return
	}
	at := o.Account*s.Symbols + o.Symbol
	pos := big.NewInt(s.Cells[at].Pos)
	// Only a fill leaves more of an order done.
	pos.Add(pos, big.NewInt((o.Filled-s.Orders[i].Filled)*int64(3-2*o.Side)))
	s.Orders[i] = o
	if o.Phase == api.Done {
		s.Orders = append(s.Orders[:i], s.Orders[i+1:]...)
	}
	s.Cells[at], _ = sumsOf(s.Orders, o.Account, o.Symbol).cellWith(pos)
}

// roomy is a state with room behind each of its lists, in which something stands.
func roomy(s api.State) api.State {
	s.Orders = append(slices.Clone(s.Orders), api.Order{Id: 71}, api.Order{Id: 72})[:len(s.Orders)]
	s.Cells = append(slices.Clone(s.Cells), api.Cell{Pos: 73}, api.Cell{Pos: 74})[:len(s.Cells)]
	s.Limits = append(slices.Clone(s.Limits), api.Expo{Long: 75}, api.Expo{Long: 76})[:len(s.Limits)]
	s.Caps = append(slices.Clone(s.Caps), 77, 78)[:len(s.Caps)]
	return s
}

// wholly is a state with lists that have all their room.
func wholly(s api.State) api.State {
	s.Orders, s.Cells = s.Orders[:cap(s.Orders)], s.Cells[:cap(s.Cells)]
	s.Limits, s.Caps = s.Limits[:cap(s.Limits)], s.Caps[:cap(s.Caps)]
	return s
}

// spoil all that a state's lists have, and their room.
func spoil(s api.State) {
	s = wholly(s)
	for i := range s.Orders {
		s.Orders[i] = api.Order{Id: -1}
	}
	for i := range s.Cells {
		s.Cells[i] = api.Cell{Pos: -2}
	}
	for i := range s.Limits {
		s.Limits[i] = api.Expo{Long: -3}
	}
	for i := range s.Caps {
		s.Caps[i] = -4
	}
}

// holds May and Do of a record against the chapter, and answers what came of it.
func holds(t *testing.T, s api.State, r api.Rec) (api.State, api.Errno) {
	t.Helper()
	want, wantErr := done(s, r)
	given := roomy(s)
	was := copied(wholly(given))
	if err := book.May(given, r); err != wantErr {
		t.Fatalf("May(%+v, %+v) = %d; want %d", s, r, err, wantErr)
	}
	got, err := book.Do(given, r)
	if err != wantErr || !same(got, want) {
		t.Fatalf("Do(%+v, %+v) = %+v, %d; want %+v, %d", s, r, got, err, want, wantErr)
	}
	then := copied(got)
	if err == api.OK {
		// The answer is new memory: whoever changes it changes nothing else.
		spoil(got)
	}
	if !same(wholly(given), was) {
		t.Fatalf("Do(%+v, %+v) or May changed what was handed in: %+v", s, r, wholly(given))
	}
	return then, err
}
