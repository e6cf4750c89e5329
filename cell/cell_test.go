package cell_test

import (
	"math"
	"math/big"
	"math/rand"
	"testing"

	"snaffle/api"
	"snaffle/cell"
	"snaffle/order"
)

const (
	most  = math.MaxInt64
	least = math.MinInt64
)

// wide are a cell's numbers, however great.
type wide struct{ pos, buy, sell, open *big.Int }

func wideOf(c api.Cell) wide {
	return wide{big.NewInt(c.Pos), big.NewInt(c.Buy), big.NewInt(c.Sell), big.NewInt(c.Open)}
}

// expo is what such a cell may come to.
func (w wide) expo() [3]*big.Int {
	return [3]*big.Int{new(big.Int).Add(w.pos, w.buy), new(big.Int).Sub(w.sell, w.pos), w.open}
}

// right: is it a cell that is right?
func (w wide) right() bool {
	for _, n := range w.expo() {
		if !n.IsInt64() {
			return false
		}
	}
	for _, n := range []*big.Int{w.buy, w.sell, w.open} {
		if n.Sign() < 0 || !n.IsInt64() {
			return false
		}
	}
	return w.pos.IsInt64()
}

// cellOr is the cell with these numbers, or what there was, and ErrOver.
func (w wide) cellOr(was api.Cell) (api.Cell, api.Errno) {
	if !w.right() {
		return was, api.ErrOver
	}
	return api.Cell{Pos: w.pos.Int64(), Buy: w.buy.Int64(), Sell: w.sell.Int64(), Open: w.open.Int64()}, api.OK
}

// moved is what the chapter says of an order that comes (1) to a cell, or goes (-1) from it.
func moved(c api.Cell, o api.Order, way int64) (api.Cell, api.Errno) {
	w := wideOf(c)
	if !w.right() || !order.Right(o) {
		return c, api.ErrArg
	}
	worth, err := order.Worth(o)
	if err != api.OK {
		return c, api.ErrOver
	}
	side := w.buy
	if o.Side == 2 {
		side = w.sell
	}
	side.Add(side, new(big.Int).Mul(big.NewInt(way), big.NewInt(order.Open(o))))
	w.open.Add(w.open, new(big.Int).Mul(big.NewInt(way), big.NewInt(worth)))
	return w.cellOr(c)
}

// did is what the chapter says of so many done of a side.
func did(c api.Cell, side int, qty int64) (api.Cell, api.Errno) {
	w := wideOf(c)
	if !w.right() || side < 1 || side > 2 || qty < 0 {
		return c, api.ErrArg
	}
	w.pos.Add(w.pos, new(big.Int).Mul(big.NewInt(int64(3-2*side)), big.NewInt(qty)))
	return w.cellOr(c)
}

// comesAndGoes holds Come and Go against the chapter, and that an order that comes and goes leaves a cell as it was.
func comesAndGoes(t *testing.T, c api.Cell, o api.Order) {
	t.Helper()
	want, wantErr := moved(c, o, 1)
	got, err := cell.Come(c, o)
	if got != want || err != wantErr {
		t.Fatalf("Come(%+v, %+v) = %+v, %d; want %+v, %d", c, o, got, err, want, wantErr)
	}
	if err == api.OK {
		if was, err := cell.Go(got, o); was != c || err != api.OK {
			t.Fatalf("Go(Come(%+v, %+v)) = %+v, %d", c, o, was, err)
		}
	}
	want, wantErr = moved(c, o, -1)
	if got, err := cell.Go(c, o); got != want || err != wantErr {
		t.Fatalf("Go(%+v, %+v) = %+v, %d; want %+v, %d", c, o, got, err, want, wantErr)
	}
}

// dids holds Did against the chapter.
func dids(t *testing.T, c api.Cell, side int, qty int64) {
	t.Helper()
	want, wantErr := did(c, side, qty)
	if got, err := cell.Did(c, side, qty); got != want || err != wantErr {
		t.Fatalf("Did(%+v, %d, %d) = %+v, %d; want %+v, %d", c, side, qty, got, err, want, wantErr)
	}
}

// edges are numbers on both sides of each border that a cell's numbers have.
func edges() []int64 {
	return []int64{
		0, 1, -1, 2, -2, 7, -7, 10, 30, 1 << 32, -1 << 32, 1 << 62, 1<<62 - 1, -1 << 62, -1<<62 - 1,
		most, most - 1, most - 10, least, least + 1, least + 2, least + 10,
	}
}

// cells with all numbers at all edges, right or not.
func cells() []api.Cell {
	var l []api.Cell
	for _, pos := range edges() {
		for _, buy := range edges() {
			for _, sell := range edges() {
				for _, open := range []int64{least, -1, 0, 1, 30, 1 << 62, most - 1, most} {
					l = append(l, api.Cell{Pos: pos, Buy: buy, Sell: sell, Open: open})
				}
			}
		}
	}
	return l
}

// buys is an order to buy, Sent.
func buys(qty, price int64) api.Order {
	return api.Order{Id: 1, Side: api.Buy, Qty: qty, Price: price, Phase: api.Sent}
}

// lives is an order to buy, Live, of which some were done, with a quantity and a price pending (0: none).
func lives(qty, price, filled, newQty, newPrice int64) api.Order {
	o := buys(qty, price)
	o.Phase, o.Filled, o.NewQty, o.NewPrice = api.Live, filled, newQty, newPrice
	return o
}

// phased is it in such a phase.
func phased(o api.Order, phase int) api.Order {
	o.Phase = phase
	return o
}

// sells is it with the other side.
func sells(o api.Order) api.Order {
	o.Side = api.Sell
	return o
}

// orders of both sides that are right: small ones, greatest ones, and such as have no worth.
func orders() []api.Order {
	var l []api.Order
	for _, o := range []api.Order{
		buys(1, 1), buys(10, 3), buys(1, most), buys(most, 1), buys(1<<62, 1), buys(1<<31, 1<<31),
		buys(1<<62, 2), buys(most, most), buys(1<<32, 1<<32),
		lives(10, 3, 0, 0, 0), lives(10, 3, 4, 0, 0), lives(most, 1, most-1, 0, 0), lives(most, most, most-1, 0, 0),
		lives(10, 3, 4, 12, 2), lives(10, 3, 4, 14, 2), lives(10, 3, 4, 6, 100), lives(10, 3, 4, 4, most), lives(10, 3, 4, 1, 1),
		lives(1, 1, 0, most, 1), lives(1, most, 0, 2, 1), lives(1, 1, 0, 1<<62, 2), lives(1<<62, 2, 0, 1, 1),
		phased(buys(10, 3), api.Done), phased(lives(most, most, 9, 0, 0), api.Done), phased(lives(10, 3, 10, 0, 0), api.Done),
	} {
		l = append(l, o, sells(o))
	}
	return l
}

// wrongs are orders that aren't right, each by what it is called.
func wrongs() map[string]api.Order {
	wrong := map[string]api.Order{
		"none":              {},
		"no quantity":       buys(0, 3),
		"below no quantity": buys(-10, 3),
		"no price":          buys(10, 0),
		"no phase":          phased(buys(10, 3), 0),
		"another phase":     phased(buys(10, 3), 4),
		"sent and done of":  phased(lives(10, 3, 4, 0, 0), api.Sent),
		"all done, live":    lives(10, 3, 10, 0, 0),
		"half pending":      lives(10, 3, 0, 12, 0),
		"done and pending":  phased(lives(10, 3, 0, 12, 1), api.Done),
	}
	for name, set := range map[string]func(o *api.Order){
		"no number":          func(o *api.Order) { o.Id = 0 },
		"too great a number": func(o *api.Order) { o.Id = api.MaxId + 1 },
		"no account":         func(o *api.Order) { o.Account = api.None },
		"no symbol":          func(o *api.Order) { o.Symbol = api.MaxSymbols },
		"no side":            func(o *api.Order) { o.Side = 0 },
		"a third side":       func(o *api.Order) { o.Side = 3 },
		"version below":      func(o *api.Order) { o.Version = -1 },
	} {
		o := lives(10, 3, 4, 12, 2)
		set(&o)
		wrong[name] = o
	}
	return wrong
}

// P8.1: cells by name, which of them are right, and what these may come to.
func TestRightAndOfByName(t *testing.T) {
	for _, x := range []struct {
		c    api.Cell
		want api.Expo
	}{
		{api.Cell{}, api.Expo{}},
		{api.Cell{Buy: 10, Open: 30}, api.Expo{Long: 10, Open: 30}},
		{api.Cell{Pos: 4, Buy: 6, Open: 18}, api.Expo{Long: 10, Short: -4, Open: 18}},
		{api.Cell{Pos: -4, Sell: 6, Open: 18}, api.Expo{Long: -4, Short: 10, Open: 18}},
		{api.Cell{Pos: 2, Buy: 10, Sell: 8, Open: 58}, api.Expo{Long: 12, Short: 6, Open: 58}},
		{api.Cell{Open: most}, api.Expo{Open: most}},
		{api.Cell{Pos: most}, api.Expo{Long: most, Short: -most}},
		{api.Cell{Pos: most, Sell: most}, api.Expo{Long: most}},
		{api.Cell{Pos: -most}, api.Expo{Long: -most, Short: most}},
		{api.Cell{Pos: -most, Buy: most}, api.Expo{Short: most}},
		{api.Cell{Buy: most, Sell: most}, api.Expo{Long: most, Short: most}},
		{api.Cell{Pos: -1, Buy: most, Sell: most - 1}, api.Expo{Long: most - 1, Short: most}},
	} {
		if got, err := cell.Of(x.c); got != x.want || err != api.OK || !cell.Right(x.c) {
			t.Errorf("Of(%+v) = %+v, %d; want %+v", x.c, got, err, x.want)
		}
	}
	for _, c := range []api.Cell{
		{Buy: -1}, {Sell: -1}, {Open: -1}, {Buy: least}, {Sell: least}, {Open: least},
		{Pos: 5, Buy: -1, Sell: 9, Open: 9}, {Pos: -5, Buy: 9, Sell: -1, Open: 9}, {Buy: 9, Sell: 9, Open: -1},
		{Pos: most, Buy: 1}, {Pos: 1, Buy: most}, {Pos: most, Buy: most},
		{Pos: -most, Sell: 1}, {Pos: -1, Sell: most}, {Pos: -most, Sell: most},
		{Pos: least}, {Pos: least, Buy: most}, {Pos: least, Sell: 1},
	} {
		if got, err := cell.Of(c); got != (api.Expo{}) || err != api.ErrArg || cell.Right(c) {
			t.Errorf("Of(%+v) = %+v, %d; Right = %v", c, got, err, cell.Right(c))
		}
	}
}

// P8.1: cells at all edges come to what whole numbers without bounds say.
func TestRightAndOfEdges(t *testing.T) {
	rights := 0
	for _, c := range cells() {
		w := wideOf(c)
		want, wantErr := api.Expo{}, api.ErrArg
		if w.right() {
			rights++
			x := w.expo()
			want, wantErr = api.Expo{Long: x[0].Int64(), Short: x[1].Int64(), Open: x[2].Int64()}, api.OK
		}
		if got, err := cell.Of(c); got != want || err != wantErr || cell.Right(c) != (err == api.OK) {
			t.Fatalf("Of(%+v) = %+v, %d; want %+v, %d; Right = %v", c, got, err, want, wantErr, cell.Right(c))
		}
	}
	if rights < 1000 {
		t.Errorf("%d cells are right", rights)
	}
}

// P8.2: orders by name that come to a cell, and go from it.
func TestComeAndGoByName(t *testing.T) {
	c := api.Cell{Pos: 2, Buy: 20, Sell: 30, Open: 500}
	for _, x := range []struct {
		o           api.Order
		open, worth int64
	}{
		{buys(10, 3), 10, 30},
		{lives(10, 3, 0, 0, 0), 10, 30},
		{lives(10, 3, 4, 0, 0), 6, 18},
		{lives(10, 3, 4, 12, 2), 8, 18},
		{lives(10, 3, 4, 12, 5), 8, 40},
		{lives(10, 3, 4, 6, 100), 6, 200},
		{lives(10, 3, 4, 4, 1000), 6, 18},
		{phased(lives(10, 3, 4, 0, 0), api.Done), 0, 0},
		{phased(lives(10, 3, 10, 0, 0), api.Done), 0, 0},
	} {
		more, less := c, c
		more.Buy, more.Open = c.Buy+x.open, c.Open+x.worth
		less.Buy, less.Open = c.Buy-x.open, c.Open-x.worth
		stands(t, "Come", cell.Come, c, x.o, more, api.OK)
		stands(t, "Go", cell.Go, c, x.o, less, api.OK)
		more, less = c, c
		more.Sell, more.Open = c.Sell+x.open, c.Open+x.worth
		less.Sell, less.Open = c.Sell-x.open, c.Open-x.worth
		stands(t, "Come", cell.Come, c, sells(x.o), more, api.OK)
		stands(t, "Go", cell.Go, c, sells(x.o), less, api.OK)
	}
}

// stands holds what a cell becomes by an order, and the error.
func stands(t *testing.T, name string, f func(api.Cell, api.Order) (api.Cell, api.Errno), c api.Cell, o api.Order, want api.Cell, wantErr api.Errno) {
	t.Helper()
	if got, err := f(c, o); got != want || err != wantErr {
		t.Errorf("%s(%+v, %+v) = %+v, %d; want %+v, %d", name, c, o, got, err, want, wantErr)
	}
}

// P8.2: whose an order is, by its account, symbol and number, and whether it is to end, is no matter to a cell.
func TestComeOfAny(t *testing.T) {
	o := api.Order{Id: api.MaxId, Account: 7, Symbol: 6, Side: api.Sell, Qty: 10, Price: 3, Filled: 4, Phase: api.Live, Version: most, Asked: true}
	stands(t, "Come", cell.Come, api.Cell{Pos: -1}, o, api.Cell{Pos: -1, Sell: 6, Open: 18}, api.OK)
	stands(t, "Go", cell.Go, api.Cell{Pos: -1, Sell: 6, Open: 18}, o, api.Cell{Pos: -1}, api.OK)
}

// P8.2: errors leave a cell as it is; an argument that may not be goes ahead of numbers that are none.
func TestComeAndGoNot(t *testing.T) {
	c := api.Cell{Pos: 2, Buy: 20, Sell: 30, Open: 500}
	for name, o := range wrongs() {
		if order.Right(o) {
			t.Fatalf("%s is right", name)
		}
		for _, c := range []api.Cell{c, {}, {Open: most}, {Buy: -1}} {
			stands(t, "Come", cell.Come, c, o, c, api.ErrArg)
			stands(t, "Go", cell.Go, c, o, c, api.ErrArg)
		}
	}
	for _, c := range []api.Cell{{Buy: -1}, {Sell: -1}, {Open: -1}, {Pos: most, Buy: 1}, {Pos: -most, Sell: 1}, {Pos: least}} {
		for _, o := range orders() {
			stands(t, "Come", cell.Come, c, o, c, api.ErrArg)
			stands(t, "Go", cell.Go, c, o, c, api.ErrArg)
		}
	}
}

// P8.2: what would be beyond all numbers, or no cell that is right, can't come, and can't go.
func TestComeAndGoOver(t *testing.T) {
	ten, none := buys(10, 3), lives(1, 1, 0, 1<<62, 2)
	for _, x := range []struct {
		c          api.Cell
		o          api.Order
		come, goes api.Errno
	}{
		{api.Cell{}, ten, api.OK, api.ErrOver},
		{api.Cell{}, sells(ten), api.OK, api.ErrOver},
		{api.Cell{Buy: 10, Open: 30}, ten, api.OK, api.OK},
		{api.Cell{Buy: 9, Open: 30}, ten, api.OK, api.ErrOver},
		{api.Cell{Buy: 10, Open: 29}, ten, api.OK, api.ErrOver},
		{api.Cell{Sell: 9, Open: 30}, sells(ten), api.OK, api.ErrOver},
		{api.Cell{Sell: 10, Open: 29}, sells(ten), api.OK, api.ErrOver},
		// There is enough, but of the other side.
		{api.Cell{Sell: 10, Open: 30}, ten, api.OK, api.ErrOver},
		{api.Cell{Buy: 10, Open: 30}, sells(ten), api.OK, api.ErrOver},
		{api.Cell{Buy: most - 10}, ten, api.OK, api.ErrOver},
		{api.Cell{Buy: most - 9, Open: 30}, ten, api.ErrOver, api.OK},
		{api.Cell{Pos: most - 10}, ten, api.OK, api.ErrOver},
		{api.Cell{Pos: most - 9}, ten, api.ErrOver, api.ErrOver},
		{api.Cell{Pos: most - 9}, sells(ten), api.OK, api.ErrOver},
		{api.Cell{Sell: most - 9, Open: 30}, sells(ten), api.ErrOver, api.OK},
		{api.Cell{Pos: 1, Sell: most - 9, Open: 30}, sells(ten), api.ErrOver, api.OK},
		{api.Cell{Pos: 1, Sell: most - 10, Open: 30}, sells(ten), api.OK, api.OK},
		// The side is a number then, but with the position it comes to none.
		{api.Cell{Pos: -1, Sell: most - 10, Open: 30}, sells(ten), api.ErrOver, api.OK},
		{api.Cell{Pos: 1, Buy: most - 10, Open: 30}, ten, api.ErrOver, api.OK},
		{api.Cell{Pos: -1, Buy: most - 10, Open: 30}, ten, api.OK, api.OK},
		{api.Cell{Pos: -most + 10}, sells(ten), api.OK, api.ErrOver},
		{api.Cell{Pos: -most + 9}, sells(ten), api.ErrOver, api.ErrOver},
		{api.Cell{Pos: -most + 9}, ten, api.OK, api.ErrOver},
		{api.Cell{Buy: 10, Open: most - 30}, ten, api.OK, api.OK},
		{api.Cell{Buy: 10, Open: most - 29}, ten, api.ErrOver, api.OK},
		// It has no worth, whatever the cell has.
		{api.Cell{}, none, api.ErrOver, api.ErrOver},
		{api.Cell{Buy: most, Sell: most, Open: most}, none, api.ErrOver, api.ErrOver},
		{api.Cell{Buy: most, Sell: most, Open: most}, sells(none), api.ErrOver, api.ErrOver},
	} {
		comesAndGoes(t, x.c, x.o)
		if got, err := cell.Come(x.c, x.o); err != x.come || err != api.OK && got != x.c {
			t.Errorf("Come(%+v, %+v) = %+v, %d; want %d", x.c, x.o, got, err, x.come)
		}
		if got, err := cell.Go(x.c, x.o); err != x.goes || err != api.OK && got != x.c {
			t.Errorf("Go(%+v, %+v) = %+v, %d; want %d", x.c, x.o, got, err, x.goes)
		}
	}
}

// P8.2, P8.4: all orders come to cells at all edges, and go, as the chapter says; what came goes.
func TestComeAndGoEdges(t *testing.T) {
	l := orders()
	for _, o := range wrongs() {
		l = append(l, o)
	}
	// Where a cell isn't right, one order and another one are enough.
	for _, c := range cells() {
		if !cell.Right(c) {
			comesAndGoes(t, c, l[0])
			comesAndGoes(t, c, l[len(l)-1])
			continue
		}
		for _, o := range l {
			comesAndGoes(t, c, o)
		}
	}
}

// P8.2: some of a side that are done, by name.
func TestDidByName(t *testing.T) {
	c := api.Cell{Pos: 2, Buy: 20, Sell: 30, Open: 500}
	at := func(pos int64) api.Cell {
		then := c
		then.Pos = pos
		return then
	}
	for _, x := range []struct {
		c    api.Cell
		side int
		qty  int64
		want api.Cell
		e    api.Errno
	}{
		{c, api.Buy, 3, at(5), api.OK},
		{c, api.Sell, 3, at(-1), api.OK},
		{c, api.Buy, 0, c, api.OK},
		{c, api.Sell, 0, c, api.OK},
		// More than what is open is no matter to a cell.
		{c, api.Buy, 1000, at(1002), api.OK},
		{c, api.Sell, 1000, at(-998), api.OK},
		{api.Cell{}, api.Buy, most, api.Cell{Pos: most}, api.OK},
		{api.Cell{}, api.Sell, most, api.Cell{Pos: -most}, api.OK},
		{api.Cell{Pos: -most}, api.Buy, most, api.Cell{}, api.OK},
		{c, api.Buy, most - 22, at(most - 20), api.OK},
		{c, api.Buy, most - 21, c, api.ErrOver},
		{c, api.Buy, most, c, api.ErrOver},
		{c, api.Sell, most - 28, at(30 - most), api.OK},
		{c, api.Sell, most - 27, c, api.ErrOver},
		{c, api.Sell, most, c, api.ErrOver},
		// The least number has no negative, so no cell has it.
		{api.Cell{Pos: -1}, api.Sell, most, api.Cell{Pos: -1}, api.ErrOver},
		{api.Cell{Pos: -most}, api.Sell, 1, api.Cell{Pos: -most}, api.ErrOver},
		{api.Cell{Pos: -most}, api.Sell, most, api.Cell{Pos: -most}, api.ErrOver},
		{api.Cell{Pos: most}, api.Buy, 1, api.Cell{Pos: most}, api.ErrOver},
		{c, 0, 3, c, api.ErrArg},
		{c, 3, 3, c, api.ErrArg},
		{c, -1, 3, c, api.ErrArg},
		{c, api.Buy, -1, c, api.ErrArg},
		{c, api.Sell, -1, c, api.ErrArg},
		{c, api.Buy, least, c, api.ErrArg},
		{c, api.Sell, least, c, api.ErrArg},
		{api.Cell{Buy: -1}, api.Buy, 1, api.Cell{Buy: -1}, api.ErrArg},
		{api.Cell{Sell: -1}, api.Buy, 1, api.Cell{Sell: -1}, api.ErrArg},
		{api.Cell{Open: -1}, api.Sell, 1, api.Cell{Open: -1}, api.ErrArg},
		{api.Cell{Pos: least}, api.Buy, 1, api.Cell{Pos: least}, api.ErrArg},
		{api.Cell{Pos: most, Buy: 1}, api.Sell, 1, api.Cell{Pos: most, Buy: 1}, api.ErrArg},
	} {
		if got, err := cell.Did(x.c, x.side, x.qty); got != x.want || err != x.e {
			t.Errorf("Did(%+v, %d, %d) = %+v, %d; want %+v, %d", x.c, x.side, x.qty, got, err, x.want, x.e)
		}
	}
}

// P8.2: so many done in cells at all edges, as the chapter says.
func TestDidEdges(t *testing.T) {
	for _, c := range cells() {
		if !cell.Right(c) {
			dids(t, c, api.Buy, 1)
			dids(t, c, api.Sell, most)
			continue
		}
		for _, side := range []int{-1, 0, api.Buy, api.Sell, 3, math.MaxInt, math.MinInt} {
			for _, qty := range edges() {
				dids(t, c, side, qty)
			}
		}
	}
}

// P8.3: one covers another one, if none of its three is less.
func TestCovers(t *testing.T) {
	l := []int64{0, 1, -1, most, most - 1, least, least + 1}
	var all []api.Expo
	for _, long := range l {
		for _, short := range l {
			for _, open := range l {
				all = append(all, api.Expo{Long: long, Short: short, Open: open})
			}
		}
	}
	for _, a := range all {
		for _, b := range all {
			less := a.Long < b.Long || a.Short < b.Short || a.Open < b.Open
			if got := cell.Covers(a, b); got == less {
				t.Fatalf("Covers(%+v, %+v) = %v", a, b, got)
			}
		}
	}
}

// P8.3: by name; a thing covers itself, and each of the three counts by itself.
func TestCoversByName(t *testing.T) {
	x := api.Expo{Long: 5, Short: -6, Open: 7}
	for _, b := range []api.Expo{x, {Long: 4, Short: -6, Open: 7}, {Long: 5, Short: -7, Open: 7}, {Long: 5, Short: -6, Open: 6}, {Long: least, Short: least, Open: least}} {
		if !cell.Covers(x, b) {
			t.Errorf("%+v doesn't cover %+v", x, b)
		}
	}
	for _, b := range []api.Expo{{Long: 6, Short: -6, Open: 7}, {Long: 5, Short: -5, Open: 7}, {Long: 5, Short: -6, Open: 8}, {Long: 6, Short: -9, Open: -9}, {Long: most, Short: most, Open: most}} {
		if cell.Covers(x, b) {
			t.Errorf("%+v covers %+v", x, b)
		}
	}
}

// takes is a cell when an order that is in it took a note: the order goes, some of its side are done, if that is told,
// and it comes again. No step may fail, and the cell may come to no more.
func takes(t *testing.T, c api.Cell, o api.Order, n api.Note) (api.Cell, api.Order) {
	t.Helper()
	then, err := order.Take(o, n)
	if err != api.OK {
		return c, o
	}
	was, err := cell.Of(c)
	if err != api.OK {
		t.Fatalf("Of(%+v): %d", c, err)
	}
	next, err := cell.Go(c, o)
	if err != api.OK {
		t.Fatalf("Go(%+v, %+v): %d", c, o, err)
	}
	if n.What == api.Fill {
		if next, err = cell.Did(next, o.Side, n.Qty); err != api.OK {
			t.Fatalf("Did of %+v, by %+v: %d", c, n, err)
		}
	}
	if next, err = cell.Come(next, then); err != api.OK {
		t.Fatalf("Come of %+v, by %+v: %d", c, n, err)
	}
	if now, err := cell.Of(next); err != api.OK || !cell.Covers(was, now) {
		t.Fatalf("%+v with %+v, by %+v: it comes to %+v (%d), and came to %+v", c, o, n, now, err, was)
	}
	return next, then
}

// The chapter's example.
func TestExample(t *testing.T) {
	o := lives(10, 3, 0, 0, 0)
	c, err := cell.Come(api.Cell{}, o)
	if x, e := cell.Of(c); err != api.OK || e != api.OK || x != (api.Expo{Long: 10, Short: 0, Open: 30}) {
		t.Fatalf("%+v, %d", x, e)
	}
	c, _ = takes(t, c, o, api.Note{Seq: 1, What: api.Fill, Order: 1, Qty: 4})
	if x, e := cell.Of(c); e != api.OK || x != (api.Expo{Long: 10, Short: -4, Open: 18}) {
		t.Errorf("%+v, %d", x, e)
	}
}

// P8.4: done of an order that is in it, some of a side make a cell come to no more, at all edges.
func TestDoneNoMore(t *testing.T) {
	done := 0
	for _, c := range cells() {
		for _, o := range orders() {
			in, err := cell.Come(c, o)
			if err != api.OK {
				continue
			}
			open := o.Qty - o.Filled
			for _, qty := range []int64{1, 2, 4, open / 2, open - 1, open} {
				if next, then := takes(t, in, o, api.Note{Seq: 1, What: api.Fill, Order: 1, Qty: qty}); then != o {
					if done++; next.Pos-c.Pos != qty && c.Pos-next.Pos != qty {
						t.Fatalf("%+v with %+v, of which %d were done: %+v", in, o, qty, next)
					}
				}
			}
		}
	}
	if done < 1000 {
		t.Errorf("so many were done: %d", done)
	}
}

// drawn is a number from 1 on: most often a small one, else any, or one of the greatest.
func drawn(draw *rand.Rand) int64 {
	switch draw.Intn(9) {
	case 0:
		return 1 + draw.Int63n(most)
	case 1:
		return most - draw.Int63n(3)
	case 2:
		return 1 + draw.Int63n(1<<31)
	}
	return 1 + draw.Int63n(12)
}

// drawnNote is one that an order can often take.
func drawnNote(draw *rand.Rand, o api.Order) api.Note {
	n := api.Note{Seq: 1, What: 1 + draw.Intn(6), Order: o.Id}
	switch n.What {
	case api.Fill:
		n.Qty = 1
		if open := o.Qty - o.Filled; open > 1 {
			n.Qty += draw.Int63n(open)
		}
	case api.Replaced:
		n.Qty, n.Price = o.NewQty, o.NewPrice
	}
	return n
}

// desk is a cell with orders that came to it, and what of it is had.
type desk struct {
	cell   api.Cell
	orders []api.Order
	pos    int64
}

// begins an order there, if the cell can have it.
func (d *desk) begins(t *testing.T, o api.Order) {
	t.Helper()
	comesAndGoes(t, d.cell, o)
	next, err := cell.Come(d.cell, o)
	if err == api.OK {
		d.orders = append(d.orders, o)
	}
	d.cell = next
}

// changes the order at such a place, if it and the cell can have it.
func (d *desk) changes(t *testing.T, at int, qty, price int64) {
	t.Helper()
	then, err := order.Change(d.orders[at], qty, price)
	if err != api.OK {
		return
	}
	gone, err := cell.Go(d.cell, d.orders[at])
	if err != api.OK {
		t.Fatalf("Go(%+v, %+v): %d", d.cell, d.orders[at], err)
	}
	comesAndGoes(t, gone, then)
	if next, err := cell.Come(gone, then); err == api.OK {
		d.cell, d.orders[at] = next, then
	}
}

// takes a note for the order at such a place.
func (d *desk) takes(t *testing.T, at int, n api.Note) bool {
	t.Helper()
	next, then := takes(t, d.cell, d.orders[at], n)
	took := then != d.orders[at]
	if took && n.What == api.Fill {
		d.pos += n.Qty * int64(3-2*then.Side)
	}
	d.cell, d.orders[at] = next, then
	if then.Phase == api.Done {
		d.orders = append(d.orders[:at], d.orders[at+1:]...)
	}
	return took
}

// adds holds that the cell is what was had and what its orders have, together.
func (d *desk) adds(t *testing.T) {
	t.Helper()
	want := api.Cell{Pos: d.pos}
	for _, o := range d.orders {
		worth, _ := order.Worth(o)
		want.Open += worth
		if o.Side == api.Buy {
			want.Buy += order.Open(o)
		} else {
			want.Sell += order.Open(o)
		}
	}
	if d.cell != want || !cell.Right(d.cell) {
		t.Fatalf("%+v; its orders come to %+v", d.cell, want)
	}
}

// P8.4: whatever befalls its orders, a cell is right, and is what these have together; no note makes it come to more.
func TestDesks(t *testing.T) {
	draw := rand.New(rand.NewSource(8))
	took := map[int]int{}
	for range 4000 {
		d := &desk{}
		for i := range 40 {
			if len(d.orders) == 0 || draw.Intn(5) == 0 {
				o := buys(drawn(draw), drawn(draw))
				if o.Id = int64(i + 1); draw.Intn(2) == 0 {
					o = sells(o)
				}
				d.begins(t, o)
			} else if at := draw.Intn(len(d.orders)); draw.Intn(3) == 0 {
				d.changes(t, at, drawn(draw), drawn(draw))
			} else if n := drawnNote(draw, d.orders[at]); d.takes(t, at, n) {
				took[n.What]++
			}
			d.adds(t)
		}
		for len(d.orders) > 0 {
			gone, err := cell.Go(d.cell, d.orders[0])
			if err != api.OK {
				t.Fatalf("Go(%+v, %+v): %d", d.cell, d.orders[0], err)
			}
			d.cell, d.orders = gone, d.orders[1:]
			d.adds(t)
		}
		if d.cell != (api.Cell{Pos: d.pos}) {
			t.Fatalf("all went, and left %+v", d.cell)
		}
	}
	for what := api.Ack; what <= api.Refused; what++ {
		if took[what] < 500 {
			t.Errorf("notes %d were taken %d times", what, took[what])
		}
	}
}
