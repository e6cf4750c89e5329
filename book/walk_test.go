package book_test

import (
	"math"
	"math/rand"
	"testing"

	"snaffle/api"
	"snaffle/book"
	"snaffle/cell"
	"snaffle/order"
)

// number drawn from 1 on: most often a small one; in a walk of great ones often one of these.
func number(draw *rand.Rand, great bool) int64 {
	if great {
		switch draw.Intn(6) {
		case 0:
			return 1 + draw.Int63n(most)
		case 1:
			return most - draw.Int63n(3)
		case 2:
			return 1<<62 - 1 + draw.Int63n(3)
		case 3:
			return 1 + draw.Int63n(1<<31)
		}
	}
	return 1 + draw.Int63n(12)
}

// walk is a state to which records are drawn.
type walk struct {
	draw   *rand.Rand
	great  bool
	bounds bool
	s      api.State
	errs   map[[2]int]int
	took   map[int]int
}

// order drawn of those that are there, most often.
func (w *walk) order() api.Order {
	if len(w.s.Orders) == 0 || w.draw.Intn(20) == 0 {
		return api.Order{Id: 1 + w.draw.Int63n(w.s.Last+2)}
	}
	return w.s.Orders[w.draw.Intn(len(w.s.Orders))]
}

// record drawn, which often may be done.
func (w *walk) record() api.Rec {
	switch n := w.draw.Intn(40); {
	case n < 12:
		r := of(buys(w.s.Last+1+w.draw.Int63n(2), number(w.draw, w.great), number(w.draw, w.great)), w.draw.Intn(w.s.Accounts), w.draw.Intn(w.s.Symbols))
		if w.draw.Intn(2) == 0 {
			r = sells(r)
		}
		return r
	case n < 18:
		return replaces(w.order().Id, number(w.draw, w.great), number(w.draw, w.great))
	case n < 20:
		return cancels(w.order().Id)
	case n < 21:
		return kills(w.draw.Intn(4) == 0)
	case n < 23 && w.bounds:
		r := bounds(w.draw.Intn(w.s.Accounts), w.draw.Intn(w.s.Symbols+1)-1, 0, 0, 8*number(w.draw, false))
		if r.Symbol != api.None {
			r.Long, r.Short = number(w.draw, w.great), number(w.draw, w.great)
		}
		return r
	case n < 39:
		return w.event()
	}
	return w.wrong()
}

// event drawn, which its order can often take.
func (w *walk) event() api.Rec {
	o := w.order()
	r := tells(w.s.Seq+1, 1+w.draw.Intn(6), o.Id, 0, 0)
	if o.Phase == api.Sent && w.draw.Intn(3) > 0 {
		r.What = api.Ack
	}
	switch r.What {
	case api.Fill:
		r.Qty = 1
		if open := o.Qty - o.Filled; open > 1 {
			r.Qty += w.draw.Int63n(open)
			if open < most && w.draw.Intn(10) == 0 {
				r.Qty = open + 1
			}
		}
	case api.Replaced:
		r.Qty, r.Price = max(o.NewQty, 1), max(o.NewPrice, 1)
	}
	if w.draw.Intn(30) == 0 {
		r.Seq += w.draw.Int63n(3) - 1
	}
	return r
}

// wrong record, most often.
func (w *walk) wrong() api.Rec {
	odd := func() int64 { return w.draw.Int63n(12) - 2 }
	return api.Rec{
		Kind: int(odd()), Order: odd(), Account: int(odd()), Symbol: int(odd()), Side: int(odd()), Qty: odd(), Price: odd(),
		Long: odd(), Short: odd(), Open: odd(), On: w.draw.Intn(2) == 0, Seq: odd(), What: int(odd()),
	}
}

// expos of all cells.
func expos(t *testing.T, s api.State) []api.Expo {
	t.Helper()
	var l []api.Expo
	for i := range s.Cells {
		x, err := book.Expo(s, i/s.Symbols, i%s.Symbols)
		if of, ofErr := cell.Of(s.Cells[i]); err != api.OK || ofErr != api.OK || x != of {
			t.Fatalf("Expo of cell %d of %+v = %+v, %d", i, s, x, err)
		}
		l = append(l, x)
	}
	return l
}

// opens of all accounts.
func opens(t *testing.T, s api.State) []int64 {
	t.Helper()
	var l []int64
	for account := range s.Accounts {
		n, err := book.Open(s, account)
		if err != api.OK || together(s, account).Int64() != n {
			t.Fatalf("Open(%d) of %+v = %d, %d", account, s, n, err)
		}
		l = append(l, n)
	}
	return l
}

// step holds what one record does against the chapter, and against P10.4.
func (w *walk) step(t *testing.T) {
	t.Helper()
	r, was := w.record(), w.s
	then, err := holds(t, was, r)
	w.errs[[2]int{r.Kind, int(err)}]++
	if err != api.OK {
		return
	}
	w.s = then
	if !book.Right(then) {
		t.Fatalf("%+v makes %+v of %+v, which isn't right", r, then, was)
	}
	before, now := expos(t, was), expos(t, then)
	openBefore, openNow := opens(t, was), opens(t, then)
	for i := range now {
		noMore(t, r, before[i], now[i], was.Limits[i])
	}
	for i := range openNow {
		if openNow[i] > openBefore[i] && (r.Kind == api.Event || openNow[i] > was.Caps[i]) {
			t.Fatalf("%+v: from %d to %d, the cap being %d", r, openBefore[i], openNow[i], was.Caps[i])
		}
	}
	w.notes(was, r)
}

// noMore may a cell come to by an event; by another record no more than its limit, where it didn't already.
func noMore(t *testing.T, r api.Rec, was, now, l api.Expo) {
	t.Helper()
	if r.Kind == api.Event && !cell.Covers(was, now) {
		t.Fatalf("%+v: from %+v to %+v", r, was, now)
	}
	top := api.Expo{Long: max(was.Long, l.Long), Short: max(was.Short, l.Short), Open: max(was.Open, l.Open)}
	if !cell.Covers(top, now) {
		t.Fatalf("%+v: from %+v to %+v, the limit being %+v", r, was, now, l)
	}
}

// notes that were taken are counted.
func (w *walk) notes(was api.State, r api.Rec) {
	if i := place(was.Orders, r.Order); r.Kind == api.Event && i >= 0 {
		n := api.Note{Seq: r.Seq, What: r.What, Order: r.Order, Qty: r.Qty, Price: r.Price}
		if _, err := order.Take(was.Orders[i], n); err == api.OK {
			w.took[r.What]++
		}
	}
}

// P10.3, P10.4: whatever is drawn, it is done as the chapter says; a state stays right, events make no cell come to
// more, and what is asked for none to more than its limit.
func TestWalks(t *testing.T) {
	draw := rand.New(rand.NewSource(10))
	errs, took := map[[2]int]int{}, map[int]int{}
	for i := range 600 {
		w := &walk{draw: draw, great: i%3 == 2, bounds: i%2 == 0, errs: errs, took: took}
		l := api.Expo{Long: draw.Int63n(60), Short: draw.Int63n(60), Open: draw.Int63n(400)}
		top := draw.Int63n(900)
		if w.great {
			l, top = api.Expo{Long: most, Short: most, Open: most}, most
		}
		w.s = begun(t, 1+draw.Intn(3), 1+draw.Intn(3), l, top)
		for range 100 {
			w.step(t)
		}
		within(t, w, l, top)
	}
	for _, x := range [][2]int{
		{1, 0}, {1, 1}, {1, 3}, {1, 4}, {1, 5}, {2, 0}, {2, 3}, {2, 4}, {2, 5}, {2, 7}, {2, 8}, {3, 0}, {3, 7}, {3, 8}, {4, 0}, {5, 0}, {6, 0}, {6, 11},
	} {
		if errs[x] < 50 {
			t.Errorf("kind %d and error %d: %d times", x[0], x[1], errs[x])
		}
	}
	for what := api.Ack; what <= api.Refused; what++ {
		if took[what] < 100 {
			t.Errorf("notes %d were taken %d times", what, took[what])
		}
	}
}

// P10.4: where no limit is turned, all cells are within theirs, and all accounts within their caps.
func within(t *testing.T, w *walk, l api.Expo, top int64) {
	t.Helper()
	if w.bounds {
		return
	}
	for _, x := range expos(t, w.s) {
		if !cell.Covers(l, x) {
			t.Fatalf("%+v comes to %+v, the limit being %+v", w.s, x, l)
		}
	}
	for _, n := range opens(t, w.s) {
		if n > top {
			t.Fatalf("%+v: %d is open, the cap being %d", w.s, n, top)
		}
	}
}

// odd is a number on one side or the other of a border.
func odd(draw *rand.Rand) int64 {
	l := []int64{least, -1, 0, 1, 2, 3, 8, 9, 64, api.MaxLsn, api.MaxLsn + 1, api.MaxId, api.MaxId + 1, most}
	if draw.Intn(3) == 0 {
		return l[draw.Intn(len(l))]
	}
	return draw.Int63n(4)
}

// oddState is any state whatever.
func oddState(draw *rand.Rand) api.State {
	s := api.State{
		Accounts: int(odd(draw)), Symbols: int(odd(draw)), Kill: draw.Intn(2) == 0, Last: odd(draw), Seq: odd(draw), Lsn: odd(draw),
	}
	for range draw.Intn(5) {
		s.Cells = append(s.Cells, api.Cell{Pos: odd(draw), Buy: odd(draw), Sell: odd(draw), Open: odd(draw)})
		s.Limits = append(s.Limits, api.Expo{Long: odd(draw), Short: odd(draw), Open: odd(draw)})
	}
	for range draw.Intn(4) {
		s.Caps = append(s.Caps, odd(draw))
	}
	for range draw.Intn(3) {
		s.Orders = append(s.Orders, api.Order{
			Id: odd(draw), Account: int(odd(draw)), Symbol: int(odd(draw)), Side: int(odd(draw)), Qty: odd(draw), Price: odd(draw),
			Filled: odd(draw), Phase: int(odd(draw)), NewQty: odd(draw), NewPrice: odd(draw), Version: odd(draw), Asked: draw.Intn(2) == 0,
		})
	}
	return s
}

// Rule 1, P10.1 to P10.3: every call ends at any state and record, and tells what the chapter says.
func TestAnyState(t *testing.T) {
	w := &walk{draw: rand.New(rand.NewSource(11))}
	for range 30000 {
		s := oddState(w.draw)
		if got, want := book.Right(s), right(s); got != want {
			t.Fatalf("Right(%+v) = %v", s, got)
		}
		holds(t, s, w.wrong())
		account, symbol := int(odd(w.draw)), int(odd(w.draw))
		book.Place(s, account, symbol)
		id := odd(w.draw)
		if got := book.Find(s, id); got != place(s.Orders, id) {
			t.Fatalf("Find(%+v, %d) = %d", s, id, got)
		}
		there := right(s) && min(account, symbol) >= 0 && account < s.Accounts
		if x, err := book.Expo(s, account, symbol); (err == api.OK) != (there && symbol < s.Symbols) || err != api.OK && x != (api.Expo{}) {
			t.Fatalf("Expo(%+v, %d, %d) = %+v, %d", s, account, symbol, x, err)
		}
		if n, err := book.Open(s, account); (err == api.OK) != (right(s) && account >= 0 && account < s.Accounts) || err != api.OK && n != 0 {
			t.Fatalf("Open(%+v, %d) = %d, %d", s, account, n, err)
		}
	}
}

// Rule 1, P10.1: a part of a state that is right is drawn otherwise; it is right or not as the chapter says.
func TestNearlyRight(t *testing.T) {
	draw := rand.New(rand.NewSource(12))
	rights, whole := 0, busy(t)
	for range 30000 {
		s := copied(whole)
		o, c, l := &s.Orders[draw.Intn(5)], &s.Cells[draw.Intn(6)], &s.Limits[draw.Intn(6)]
		wide := []*int64{
			&s.Last, &s.Seq, &s.Lsn, &s.Caps[draw.Intn(2)], &l.Long, &l.Short, &l.Open, &c.Pos, &c.Buy, &c.Sell, &c.Open,
			&o.Id, &o.Qty, &o.Price, &o.Filled, &o.NewQty, &o.NewPrice, &o.Version,
		}
		small := []*int{&s.Accounts, &s.Symbols, &o.Account, &o.Symbol, &o.Side, &o.Phase}
		if n := draw.Intn(len(wide) + len(small)); n < len(wide) {
			*wide[n] = odd(draw)
		} else {
			*small[n-len(wide)] = int(odd(draw))
		}
		if got, want := book.Right(s), right(s); got != want {
			t.Fatalf("Right(%+v) = %v", s, got)
		} else if got {
			rights++
		}
	}
	if rights < 1000 || rights > 29000 {
		t.Errorf("%d are right", rights)
	}
}

// Rule 1: the greatest numbers make no call panic.
func TestGreatestState(t *testing.T) {
	for _, n := range []int{math.MinInt, math.MaxInt, 1 << 61} {
		s := api.State{Accounts: n, Symbols: n, Cells: make([]api.Cell, 3), Limits: make([]api.Expo, 3), Caps: make([]int64, 3)}
		if book.Right(s) || book.May(s, kills(true)) != api.ErrArg {
			t.Errorf("%d accounts and symbols", n)
		}
		for _, at := range []int{0, 1, n - 1, n} {
			if _, err := book.Expo(s, at, at); err != api.ErrArg {
				t.Errorf("Expo of %d: %d", at, err)
			}
			if _, err := book.Open(s, at); err != api.ErrArg {
				t.Errorf("Open of %d: %d", at, err)
			}
		}
	}
}
