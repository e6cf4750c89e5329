package order_test

import (
	"math"
	"math/big"
	"math/rand"
	"testing"

	"snaffle/api"
	"snaffle/order"
	"snaffle/rec"
)

const (
	most  = math.MaxInt64
	least = math.MinInt64
)

// Where in values each field of an order stands.
const (
	id = iota
	account
	symbol
	side
	qty
	price
	filled
	phase
	newQty
	newPrice
	version
	asked
	fields
)

// values are all fields of an order; asked is 1 or 0.
type values [fields]int64

// span is from where to where a field may be.
type span struct{ from, to int64 }

// shapes are what an order of such a quantity may be: Sent, Live without and with something pending, and Done.
// A field that a shape doesn't name is 0.
func shapes(of int64) [4][fields]span {
	up, eight, is := span{1, most}, span{0, 7}, func(n int64) span { return span{n, n} }
	l := [4][fields]span{
		{phase: is(1)},
		{phase: is(2), filled: {0, of - 1}, version: {0, most}},
		{phase: is(2), filled: {0, of - 1}, version: {0, most}, newQty: up, newPrice: up},
		{phase: is(3), filled: {0, of}, version: {0, most}},
	}
	for i := range l {
		s := &l[i]
		s[id], s[account], s[symbol], s[side] = span{1, 1000000000000}, eight, eight, span{1, 2}
		s[qty], s[price], s[asked] = up, up, span{0, 1}
	}
	return l
}

// fits some shape: an order with these values is right.
func fits(v values) bool {
	for _, s := range shapes(v[qty]) {
		in := true
		for i, n := range v {
			in = in && n >= s[i].from && n <= s[i].to
		}
		if in {
			return true
		}
	}
	return false
}

// made of values is an order.
func made(v values) api.Order {
	return api.Order{
		Id: v[id], Account: int(v[account]), Symbol: int(v[symbol]), Side: int(v[side]),
		Qty: v[qty], Price: v[price], Filled: v[filled], Phase: int(v[phase]),
		NewQty: v[newQty], NewPrice: v[newPrice], Version: v[version], Asked: v[asked] == 1,
	}
}

// edges are numbers on both sides of each border that any field has.
func edges() []int64 {
	l := []int64{most, most - 1, least, least + 1, 1<<32 + 1, 1<<32 + 2, -1 << 32, 1 << 62}
	for n := int64(-3); n <= 11; n++ {
		l = append(l, n)
	}
	for _, n := range []int64{1000000000, 1000000000000, 1 << 31, 1 << 32} {
		l = append(l, n-1, n, n+1)
	}
	return l
}

// rights are values of each shape: all at their least, all at their greatest, some between, and each field by itself
// at the edges that it may have.
func rights() []values {
	var l []values
	for _, of := range []int64{1, 2, 10, most} {
		for _, s := range shapes(of) {
			var low, high, mid values
			for i, may := range s {
				low[i], high[i], mid[i] = may.from, may.to, may.from+(may.to-may.from)/2
			}
			low[qty], high[qty], mid[qty] = of, of, of
			l = append(l, low, high, mid)
			for i, may := range s {
				for _, n := range edges() {
					if v := low; n >= may.from && n <= may.to && i != qty {
						v[i] = n
						l = append(l, v)
					}
				}
			}
		}
	}
	return l
}

// small are all orders of small numbers, right or not.
func small() []api.Order {
	var l []api.Order
	for p := range 5 {
		for q := range int64(4) {
			for f := range int64(5) {
				for n := range int64(5) {
					for m := range int64(3) {
						for k := range 8 {
							l = append(l, api.Order{
								Id: 5, Account: 1, Symbol: 2, Side: api.Sell, Qty: q, Price: 1 + int64(k>>2), Filled: f,
								Phase: p, NewQty: n, NewPrice: m, Version: int64(k & 1), Asked: k&2 != 0,
							})
						}
					}
				}
			}
		}
	}
	return l
}

// smallRights are those of small that are right.
func smallRights() []api.Order {
	var l []api.Order
	for _, o := range small() {
		if fits(valuesOf(o)) {
			l = append(l, o)
		}
	}
	return l
}

// valuesOf an order: made of them it is the same.
func valuesOf(o api.Order) values {
	v := values{o.Id, int64(o.Account), int64(o.Symbol), int64(o.Side), o.Qty, o.Price, o.Filled, int64(o.Phase), o.NewQty, o.NewPrice, o.Version}
	if o.Asked {
		v[asked] = 1
	}
	return v
}

// notes of small numbers, all that there are; some of them of another order.
func notes() []api.Note {
	var l []api.Note
	for what := -1; what <= 8; what++ {
		for q := int64(-1); q <= 5; q++ {
			for p := int64(-1); p <= 3; p++ {
				for _, of := range []int64{5, 4} {
					l = append(l, api.Note{Seq: 1, What: what, Order: of, Qty: q, Price: p})
				}
			}
		}
	}
	return l
}

// mayTell: is the record right that has what such a note has?
func mayTell(n api.Note) bool {
	if n.Seq < 1 || n.Seq > 1000000000 || n.Order < 1 || n.Order > 1000000000000 {
		return false
	}
	switch n.What {
	case 1, 2, 4, 6:
		return n.Qty == 0 && n.Price == 0
	case 3:
		return n.Qty > 0 && n.Price == 0
	case 5:
		return n.Qty > 0 && n.Price > 0
	}
	return false
}

// line of the chapter: by which note an order of which phase becomes what.
type line struct {
	what, phase int
	then        func(o *api.Order, n api.Note) bool
}

// lines of the chapter, all; a note that no line lets an order take it can't take.
func lines() []line {
	ends := func(o *api.Order) bool {
		o.Phase, o.NewQty, o.NewPrice = 3, 0, 0
		return true
	}
	return []line{
		{1, 1, func(o *api.Order, n api.Note) bool { o.Phase = 2; return true }},
		{2, 1, func(o *api.Order, n api.Note) bool { return ends(o) }},
		{3, 2, func(o *api.Order, n api.Note) bool {
			open := o.Qty - o.Filled
			o.Filled = o.Qty - (open - n.Qty)
			return n.Qty < open || n.Qty == open && ends(o)
		}},
		{4, 2, func(o *api.Order, n api.Note) bool { return ends(o) }},
		{5, 2, func(o *api.Order, n api.Note) bool {
			same := o.NewPrice > 0 && n.Qty == o.NewQty && n.Price == o.NewPrice
			o.Qty, o.Price, o.NewQty, o.NewPrice = n.Qty, n.Price, 0, 0
			return same && o.Filled < o.Qty
		}},
		{6, 2, func(o *api.Order, n api.Note) bool {
			was := o.NewPrice
			o.NewQty, o.NewPrice = 0, 0
			return was > 0
		}},
	}
}

// taken is what the chapter says of an order that takes a note.
func taken(o api.Order, n api.Note) (api.Order, api.Errno) {
	if !fits(valuesOf(o)) || !mayTell(n) || n.Order != o.Id {
		return o, api.ErrArg
	}
	for _, l := range lines() {
		if p := o; l.what == n.What && l.phase == o.Phase && l.then(&p, n) {
			return p, api.OK
		}
	}
	return o, api.ErrState
}

// takes holds that an order takes a note, or doesn't, as the chapter says.
func takes(t *testing.T, o api.Order, n api.Note) {
	t.Helper()
	want, wantErr := taken(o, n)
	if got, err := order.Take(o, n); got != want || err != wantErr {
		t.Fatalf("Take(%+v, %+v) = %+v, %d; want %+v, %d", o, n, got, err, want, wantErr)
	}
}

// changes holds that an order is changed, or isn't, as the chapter says.
func changes(t *testing.T, o api.Order, qty, price int64) {
	t.Helper()
	want, wantErr := o, api.OK
	switch {
	case !fits(valuesOf(o)) || qty < 1 || price < 1 || o.Version == most:
		wantErr = api.ErrArg
	case o.Phase != 2 || o.NewQty > 0 || o.Asked:
		wantErr = api.ErrState
	default:
		want.NewQty, want.NewPrice, want.Version = qty, price, o.Version+1
	}
	if got, err := order.Change(o, qty, price); got != want || err != wantErr {
		t.Fatalf("Change(%+v, %d, %d) = %+v, %d; want %+v, %d", o, qty, price, got, err, want, wantErr)
	}
}

// ends holds that an order is asked to end, or isn't, as the chapter says.
func ends(t *testing.T, o api.Order) {
	t.Helper()
	want, wantErr := o, api.OK
	switch {
	case !fits(valuesOf(o)):
		wantErr = api.ErrArg
	case o.Phase == 3 || o.Asked:
		wantErr = api.ErrState
	default:
		want.Asked = true
	}
	if got, err := order.End(o); got != want || err != wantErr {
		t.Fatalf("End(%+v) = %+v, %d; want %+v, %d", o, got, err, want, wantErr)
	}
}

// worth of an order in whole numbers, however great: the greatest of the products, and whether each one is a number
// that there is.
func worth(o api.Order) (*big.Int, bool) {
	best, all := new(big.Int), true
	if o.Phase == 3 {
		return best, all
	}
	add := func(qty, price int64) {
		product := new(big.Int).Mul(big.NewInt(qty), big.NewInt(price))
		all = all && product.IsInt64()
		if product.Cmp(best) > 0 {
			best = product
		}
	}
	add(o.Qty-o.Filled, o.Price)
	if o.NewQty > o.Filled {
		add(o.NewQty-o.Filled, o.NewPrice)
	}
	return best, all
}

// counts holds that Open and Worth tell of an order what the chapter says.
func counts(t *testing.T, o api.Order) {
	t.Helper()
	var open, value int64
	wantErr := api.OK
	switch best, all := worth(o); {
	case !fits(valuesOf(o)):
		wantErr = api.ErrArg
	case !all:
		wantErr = api.ErrOver
	default:
		value = best.Int64()
	}
	if wantErr != api.ErrArg && o.Phase != 3 {
		open = max(o.Qty-o.Filled, o.NewQty-o.Filled)
	}
	if got := order.Open(o); got != open {
		t.Fatalf("Open(%+v) = %d; want %d", o, got, open)
	}
	if got, err := order.Worth(o); got != value || err != wantErr {
		t.Fatalf("Worth(%+v) = %d, %d; want %d, %d", o, got, err, value, wantErr)
	}
}

// noMore holds that an order that is right stays so by a note, with no more open of it, nor worth more.
func noMore(t *testing.T, o api.Order, n api.Note) {
	t.Helper()
	p, _ := order.Take(o, n)
	if !order.Right(o) || !order.Right(p) {
		t.Fatalf("%+v, by %+v: %+v isn't right", o, n, p)
	}
	if order.Open(p) > order.Open(o) {
		t.Fatalf("%+v, by %+v: %d are open, and were %d", o, n, order.Open(p), order.Open(o))
	}
	was, err := order.Worth(o)
	if is, now := order.Worth(p); err == api.OK && (now != api.OK || is > was) {
		t.Fatalf("%+v, by %+v: it is worth %d (%d), and was %d", o, n, is, now, was)
	}
}

// live is an order of 10 at 3, of which 4 were done.
func live() api.Order {
	return api.Order{Id: 5, Account: 1, Symbol: 2, Side: api.Sell, Qty: 10, Price: 3, Filled: 4, Phase: api.Live, Version: 6}
}

// pends is it with a quantity and a price pending.
func pends(qty, price int64) api.Order {
	o := live()
	o.NewQty, o.NewPrice = qty, price
	return o
}

// tells of that order is a note.
func tells(what int, qty, price int64) api.Note {
	return api.Note{Seq: 1, What: what, Order: 5, Qty: qty, Price: price}
}

// P7.1: each order that is right, and each that isn't by one field, at all edges; and all calls of each.
func TestEachField(t *testing.T) {
	for _, v := range rights() {
		if !fits(v) {
			t.Fatalf("%v fits no shape", v)
		}
		for field := range fields {
			for _, n := range edges() {
				w := v
				if w[field] = n; field == asked && n != 0 && n != 1 {
					continue
				}
				o := made(w)
				if got := order.Right(o); got != fits(w) {
					t.Fatalf("Right(%+v) = %v", o, got)
				}
				counts(t, o)
				ends(t, o)
				changes(t, o, 7, 8)
				takes(t, o, api.Note{Seq: 1, What: api.Out, Order: o.Id})
			}
		}
	}
}

// P7.1: all orders of small numbers are right or not.
func TestSmallRight(t *testing.T) {
	for _, o := range small() {
		if got := order.Right(o); got != fits(valuesOf(o)) {
			t.Fatalf("Right(%+v) = %v", o, got)
		}
	}
}

// P7.1: orders by name that are wrong, each by what it is called.
func TestWrongByName(t *testing.T) {
	for name, spoil := range map[string]func(o *api.Order){
		"no number":               func(o *api.Order) { o.Id = 0 },
		"too great a number":      func(o *api.Order) { o.Id = api.MaxId + 1 },
		"account below":           func(o *api.Order) { o.Account = -1 },
		"account above":           func(o *api.Order) { o.Account = api.MaxAccounts },
		"symbol below":            func(o *api.Order) { o.Symbol = api.None },
		"symbol above":            func(o *api.Order) { o.Symbol = api.MaxSymbols },
		"no side":                 func(o *api.Order) { o.Side = 0 },
		"a side too many":         func(o *api.Order) { o.Side = 3 },
		"no quantity":             func(o *api.Order) { o.Qty, o.Filled = 0, 0 },
		"no price":                func(o *api.Order) { o.Price = 0 },
		"less than nothing done":  func(o *api.Order) { o.Filled = -1 },
		"all done and live":       func(o *api.Order) { o.Filled = 10 },
		"more done than asked":    func(o *api.Order) { o.Filled, o.Phase = 11, api.Done },
		"version below":           func(o *api.Order) { o.Version = -1 },
		"a price alone pending":   func(o *api.Order) { o.NewPrice = 1 },
		"a quantity alone":        func(o *api.Order) { o.NewQty = 1 },
		"below nothing pending":   func(o *api.Order) { o.NewQty, o.NewPrice = -1, -1 },
		"sent, and some done":     func(o *api.Order) { o.Phase, o.Version = api.Sent, 0 },
		"sent, and of a version":  func(o *api.Order) { o.Phase, o.Filled = api.Sent, 0 },
		"sent, something pending": func(o *api.Order) { *o = pends(1, 1); o.Phase, o.Filled, o.Version = api.Sent, 0, 0 },
		"done, something pending": func(o *api.Order) { *o = pends(1, 1); o.Phase = api.Done },
		"no phase":                func(o *api.Order) { o.Phase = 0 },
		"a phase too many":        func(o *api.Order) { o.Phase = 4 },
	} {
		o := live()
		spoil(&o)
		if order.Right(o) {
			t.Errorf("%s: %+v is right", name, o)
		}
		if got, err := order.Take(o, api.Note{Seq: 1, What: api.Out, Order: o.Id}); got != o || err != api.ErrArg {
			t.Errorf("%s: Take = %+v, %d", name, got, err)
		}
		if got, err := order.Change(o, 1, 1); got != o || err != api.ErrArg {
			t.Errorf("%s: Change = %+v, %d", name, got, err)
		}
		if got, err := order.End(o); got != o || err != api.ErrArg {
			t.Errorf("%s: End = %+v, %d", name, got, err)
		}
		if got, err := order.Worth(o); got != 0 || err != api.ErrArg || order.Open(o) != 0 {
			t.Errorf("%s: Worth = %d, %d; Open = %d", name, got, err, order.Open(o))
		}
	}
}

// P7.1: an order begins Sent, with what the record has, and nothing else.
func TestBegin(t *testing.T) {
	r := api.Rec{Kind: api.New, Order: 12, Account: 3, Symbol: 4, Side: api.Buy, Qty: 5, Price: 6}
	want := api.Order{Id: 12, Account: 3, Symbol: 4, Side: api.Buy, Qty: 5, Price: 6, Phase: api.Sent}
	if got, err := order.Begin(r); got != want || err != api.OK {
		t.Fatalf("Begin(%+v) = %+v, %d", r, got, err)
	}
	for _, r := range []api.Rec{
		{Order: 12, Account: 3, Symbol: 4, Side: api.Buy, Qty: 5, Price: 6},
		{Kind: api.Replace, Order: 12, Account: 3, Symbol: 4, Side: api.Buy, Qty: 5, Price: 6},
		{Kind: api.New, Order: 12, Account: 3, Symbol: 4, Side: api.Buy, Qty: 5, Price: 6, Open: 1},
		{Kind: api.New, Order: 12, Account: 3, Symbol: 4, Side: api.Buy, Qty: 5, Price: 6, On: true},
		{Kind: api.New, Order: 12, Account: 3, Symbol: 4, Side: api.Buy, Qty: 5, Price: 6, Seq: 1},
	} {
		if got, err := order.Begin(r); got != (api.Order{}) || err != api.ErrArg {
			t.Errorf("Begin(%+v) = %+v, %d", r, got, err)
		}
	}
	for _, r := range []api.Rec{
		{Kind: api.Replace, Order: 12, Qty: 5, Price: 6}, {Kind: api.Cancel, Order: 12}, {Kind: api.Bound},
		{Kind: api.Kill, On: true}, {Kind: api.Event, Seq: 1, What: api.Ack, Order: 12},
	} {
		if got, err := order.Begin(r); !rec.Right(r) || got != (api.Order{}) || err != api.ErrArg {
			t.Errorf("Begin(%+v), which is right and no New = %+v, %d", r, got, err)
		}
	}
}

// P7.1, P7.5: at each edge of each of a record's fields an order begins, and is right, or there is none.
func TestBeginEachField(t *testing.T) {
	set := []func(r *api.Rec, v *values, n int64){
		func(r *api.Rec, v *values, n int64) { r.Order, v[id] = n, n },
		func(r *api.Rec, v *values, n int64) { r.Account, v[account] = int(n), n },
		func(r *api.Rec, v *values, n int64) { r.Symbol, v[symbol] = int(n), n },
		func(r *api.Rec, v *values, n int64) { r.Side, v[side] = int(n), n },
		func(r *api.Rec, v *values, n int64) { r.Qty, v[qty] = n, n },
		func(r *api.Rec, v *values, n int64) { r.Price, v[price] = n, n },
	}
	for _, set := range set {
		for _, n := range edges() {
			r := api.Rec{Kind: api.New, Order: 12, Account: 3, Symbol: 4, Side: api.Sell, Qty: 5, Price: 6}
			v := values{id: 12, account: 3, symbol: 4, side: 2, qty: 5, price: 6, phase: 1}
			set(&r, &v, n)
			want, wantErr := api.Order{}, api.ErrArg
			if fits(v) {
				want, wantErr = made(v), api.OK
			}
			if got, err := order.Begin(r); got != want || err != wantErr || order.Right(got) != fits(v) {
				t.Fatalf("Begin(%+v) = %+v, %d; want %+v, %d", r, got, err, want, wantErr)
			}
		}
	}
}

// P7.2: notes by name, and what an order becomes by them.
func TestTakeByName(t *testing.T) {
	sent := api.Order{Id: 5, Side: api.Buy, Qty: 10, Price: 3, Phase: api.Sent}
	become := func(o api.Order, f func(o *api.Order)) api.Order {
		f(&o)
		return o
	}
	ended := func(o *api.Order) { o.Phase, o.NewQty, o.NewPrice = api.Done, 0, 0 }
	whole := func(o *api.Order) { ended(o); o.Filled = 10 }
	for _, x := range []struct {
		o    api.Order
		n    api.Note
		then func(o *api.Order)
	}{
		{sent, tells(api.Ack, 0, 0), func(o *api.Order) { o.Phase = api.Live }},
		{sent, tells(api.Reject, 0, 0), ended},
		{live(), tells(api.Fill, 1, 0), func(o *api.Order) { o.Filled = 5 }},
		{live(), tells(api.Fill, 5, 0), func(o *api.Order) { o.Filled = 9 }},
		{live(), tells(api.Fill, 6, 0), whole},
		{live(), tells(api.Out, 0, 0), ended},
		{pends(12, 2), tells(api.Fill, 1, 0), func(o *api.Order) { o.Filled = 5 }},
		{pends(12, 2), tells(api.Fill, 6, 0), whole},
		{pends(12, 2), tells(api.Out, 0, 0), ended},
		{pends(12, 2), tells(api.Replaced, 12, 2), func(o *api.Order) { o.Qty, o.Price, o.NewQty, o.NewPrice = 12, 2, 0, 0 }},
		{pends(5, 9), tells(api.Replaced, 5, 9), func(o *api.Order) { o.Qty, o.Price, o.NewQty, o.NewPrice = 5, 9, 0, 0 }},
		{pends(12, 2), tells(api.Refused, 0, 0), func(o *api.Order) { o.NewQty, o.NewPrice = 0, 0 }},
	} {
		for _, is := range []bool{false, true} {
			o := x.o
			o.Asked = is
			want := become(o, x.then)
			if got, err := order.Take(o, x.n); got != want || err != api.OK {
				t.Errorf("Take(%+v, %+v) = %+v, %d; want %+v", o, x.n, got, err, want)
			}
		}
	}
}

// P7.2: notes by name that an order can't take, and that aren't right.
func TestTakeNot(t *testing.T) {
	sent := api.Order{Id: 5, Side: api.Buy, Qty: 10, Price: 3, Phase: api.Sent}
	done := live()
	done.Phase = api.Done
	for _, x := range []struct {
		o api.Order
		n api.Note
		e api.Errno
	}{
		{sent, tells(api.Fill, 1, 0), api.ErrState},
		{sent, tells(api.Out, 0, 0), api.ErrState},
		{sent, tells(api.Replaced, 1, 1), api.ErrState},
		{sent, tells(api.Refused, 0, 0), api.ErrState},
		{live(), tells(api.Ack, 0, 0), api.ErrState},
		{live(), tells(api.Reject, 0, 0), api.ErrState},
		{live(), tells(api.Fill, 7, 0), api.ErrState},
		{live(), tells(api.Fill, most, 0), api.ErrState},
		{live(), tells(api.Replaced, 10, 3), api.ErrState},
		{live(), tells(api.Refused, 0, 0), api.ErrState},
		{pends(12, 2), tells(api.Fill, 8, 0), api.ErrState},
		{pends(12, 2), tells(api.Replaced, 11, 2), api.ErrState},
		{pends(12, 2), tells(api.Replaced, 13, 2), api.ErrState},
		{pends(12, 2), tells(api.Replaced, 12, 3), api.ErrState},
		{pends(12, 2), tells(api.Replaced, 12, 1), api.ErrState},
		{pends(4, 9), tells(api.Replaced, 4, 9), api.ErrState},
		{pends(1, 9), tells(api.Replaced, 1, 9), api.ErrState},
		{done, tells(api.Ack, 0, 0), api.ErrState},
		{done, tells(api.Reject, 0, 0), api.ErrState},
		{done, tells(api.Fill, 1, 0), api.ErrState},
		{done, tells(api.Out, 0, 0), api.ErrState},
		{done, tells(api.Replaced, 12, 2), api.ErrState},
		{done, tells(api.Refused, 0, 0), api.ErrState},
		{sent, tells(api.Ack, 1, 0), api.ErrArg},
		{sent, tells(api.Fill, 0, 0), api.ErrArg},
		{live(), tells(api.Fill, 0, 0), api.ErrArg},
		{live(), tells(api.Fill, -1, 0), api.ErrArg},
		{live(), tells(api.Fill, 1, 3), api.ErrArg},
		{live(), tells(api.Out, 0, 1), api.ErrArg},
		{live(), tells(0, 0, 0), api.ErrArg},
		{live(), tells(7, 0, 0), api.ErrArg},
		{pends(12, 2), tells(api.Replaced, 12, 0), api.ErrArg},
		{live(), api.Note{Seq: 1, What: api.Out, Order: 6}, api.ErrArg},
		{live(), api.Note{Seq: 0, What: api.Out, Order: 5}, api.ErrArg},
		{live(), api.Note{Seq: api.MaxLsn + 1, What: api.Out, Order: 5}, api.ErrArg},
		{api.Order{}, api.Note{Seq: 1, What: api.Out}, api.ErrArg},
	} {
		if got, err := order.Take(x.o, x.n); got != x.o || err != x.e {
			t.Errorf("Take(%+v, %+v) = %+v, %d; want it as it is, %d", x.o, x.n, got, err, x.e)
		}
	}
}

// P7.2: a note's own number is no matter, as long as it may be one.
func TestTakeAnyNumber(t *testing.T) {
	for _, n := range edges() {
		takes(t, live(), api.Note{Seq: n, What: api.Fill, Order: 5, Qty: 2})
		takes(t, live(), api.Note{Seq: 1, What: api.Fill, Order: 5, Qty: n})
		takes(t, live(), api.Note{Seq: 1, What: api.Fill, Order: 5, Qty: 2, Price: n})
		takes(t, live(), api.Note{Seq: 1, What: api.Fill, Order: n, Qty: 2})
		takes(t, live(), api.Note{Seq: 1, What: int(n), Order: 5})
		takes(t, pends(12, 2), api.Note{Seq: n, What: api.Replaced, Order: 5, Qty: 12, Price: 2})
	}
}

// P7.2: quantities as great as there are don't go beyond.
func TestTakeGreat(t *testing.T) {
	o := api.Order{Id: 5, Side: api.Buy, Qty: most, Price: 1, Filled: most - 1, Phase: api.Live}
	if got, err := order.Take(o, tells(api.Fill, 2, 0)); got != o || err != api.ErrState {
		t.Errorf("%+v, %d", got, err)
	}
	if got, err := order.Take(o, tells(api.Fill, most, 0)); got != o || err != api.ErrState {
		t.Errorf("%+v, %d", got, err)
	}
	if got, err := order.Take(o, tells(api.Fill, 1, 0)); got.Filled != most || got.Phase != api.Done || err != api.OK {
		t.Errorf("%+v, %d", got, err)
	}
	o.NewQty, o.NewPrice = most, most
	got, err := order.Take(o, tells(api.Replaced, most, most))
	if got.Qty != most || got.Price != most || got.NewQty != 0 || order.Open(got) != 1 || err != api.OK {
		t.Errorf("%+v, %d", got, err)
	}
	o.NewQty = most - 1
	if got, err := order.Take(o, tells(api.Replaced, most-1, most)); got != o || err != api.ErrState {
		t.Errorf("%+v, %d", got, err)
	}
}

// P7.2, P7.5: all orders of small numbers take all notes of small numbers as the chapter says.
func TestTakeSmall(t *testing.T) {
	all := notes()
	for _, o := range smallRights() {
		for _, n := range all {
			takes(t, o, n)
			noMore(t, o, n)
		}
	}
}

// P7.3: orders by name that are changed, and that can't be.
func TestChangeByName(t *testing.T) {
	o := live()
	want := o
	want.NewQty, want.NewPrice, want.Version = 12, 2, 7
	if got, err := order.Change(o, 12, 2); got != want || err != api.OK {
		t.Errorf("%+v, %d", got, err)
	}
	// No more than what was done, or just what it is: it may be asked for, whether or not the venue does it.
	for _, x := range [][2]int64{{1, 1}, {4, 9}, {10, 3}, {most, most}} {
		want.NewQty, want.NewPrice = x[0], x[1]
		if got, err := order.Change(o, x[0], x[1]); got != want || err != api.OK {
			t.Errorf("%v: %+v, %d", x, got, err)
		}
	}
	for name, spoil := range map[string]func(o *api.Order){
		"sent":    func(o *api.Order) { o.Phase, o.Filled, o.Version = api.Sent, 0, 0 },
		"done":    func(o *api.Order) { o.Phase = api.Done },
		"pending": func(o *api.Order) { *o = pends(1, 1) },
		"asked":   func(o *api.Order) { o.Asked = true },
	} {
		o := live()
		spoil(&o)
		if got, err := order.Change(o, 12, 2); got != o || err != api.ErrState {
			t.Errorf("%s: %+v, %d", name, got, err)
		}
		// What may not be goes ahead of when.
		for _, x := range [][2]int64{{0, 1}, {1, 0}, {-1, 1}, {1, -1}, {least, least}} {
			if got, err := order.Change(o, x[0], x[1]); got != o || err != api.ErrArg {
				t.Errorf("%s, %v: %+v, %d", name, x, got, err)
			}
		}
	}
}

// P7.3: the last version is one behind which there is none, whatever the order is else.
func TestChangeLastVersion(t *testing.T) {
	o := live()
	o.Version = most - 1
	p, err := order.Change(o, 12, 2)
	if p.Version != most || p.NewQty != 12 || err != api.OK {
		t.Fatalf("%+v, %d", p, err)
	}
	if got, err := order.Change(p, 12, 2); got != p || err != api.ErrArg {
		t.Errorf("pending: %+v, %d", got, err)
	}
	p.NewQty, p.NewPrice = 0, 0
	if got, err := order.Change(p, 12, 2); got != p || err != api.ErrArg {
		t.Errorf("nothing pending: %+v, %d", got, err)
	}
	p.Phase = api.Done
	if got, err := order.Change(p, 12, 2); got != p || err != api.ErrArg {
		t.Errorf("done: %+v, %d", got, err)
	}
}

// P7.3: orders by name that are to end, and that can't be.
func TestEndByName(t *testing.T) {
	sent := api.Order{Id: 5, Side: api.Buy, Qty: 10, Price: 3, Phase: api.Sent}
	for _, o := range []api.Order{sent, live(), pends(12, 2)} {
		want := o
		want.Asked = true
		if got, err := order.End(o); got != want || err != api.OK {
			t.Errorf("End(%+v) = %+v, %d", o, got, err)
		}
		if got, err := order.End(want); got != want || err != api.ErrState {
			t.Errorf("End(%+v) = %+v, %d", want, got, err)
		}
	}
	done := live()
	done.Phase = api.Done
	if got, err := order.End(done); got != done || err != api.ErrState {
		t.Errorf("End(%+v) = %+v, %d", done, got, err)
	}
}

// P7.3, P7.5: all orders of small numbers are changed and ended as the chapter says, and stay right.
func TestChangeAndEndSmall(t *testing.T) {
	for _, o := range small() {
		ends(t, o)
		for q := int64(-1); q <= 4; q++ {
			for p := int64(-1); p <= 2; p++ {
				changes(t, o, q, p)
				if got, err := order.Change(o, q, p); err == api.OK && !order.Right(got) {
					t.Fatalf("%+v, changed to %d at %d: %+v", o, q, p, got)
				}
			}
		}
		if got, err := order.End(o); err == api.OK && !order.Right(got) {
			t.Fatalf("%+v, asked to end: %+v", o, got)
		}
	}
}

// P7.3: a quantity and a price at all edges.
func TestChangeEdges(t *testing.T) {
	for _, q := range edges() {
		for _, p := range edges() {
			changes(t, live(), q, p)
		}
	}
}

// P7.4: orders by name, what is open of them and what they are worth, the chapter's example among them.
func TestOpenAndWorthByName(t *testing.T) {
	done := live()
	done.Phase = api.Done
	sent := api.Order{Id: 5, Side: api.Buy, Qty: 10, Price: 3, Phase: api.Sent}
	for _, x := range []struct {
		o           api.Order
		open, worth int64
	}{
		{live(), 6, 18},
		{pends(12, 2), 8, 18},
		{pends(12, 3), 8, 24},
		{pends(13, 2), 9, 18},
		{pends(14, 2), 10, 20},
		{pends(6, 100), 6, 200},
		{pends(5, 18), 6, 18},
		{pends(5, 19), 6, 19},
		{pends(4, 1000), 6, 18},
		{pends(1, 1000), 6, 18},
		{sent, 10, 30},
		{done, 0, 0},
		{api.Order{}, 0, 0},
	} {
		wantErr := api.OK
		if x.o.Id == 0 {
			wantErr = api.ErrArg
		}
		for _, is := range []bool{false, true} {
			o := x.o
			o.Asked = is
			if got, err := order.Worth(o); order.Open(o) != x.open || got != x.worth || err != wantErr {
				t.Errorf("%+v: %d are open, worth %d, %d; want %d, %d, %d", o, order.Open(o), got, err, x.open, x.worth, wantErr)
			}
		}
	}
}

// P7.4: a product that is none of the numbers that there are, and is asked for, leaves no worth.
func TestWorthOver(t *testing.T) {
	great := func(qty, price, filled, newQty, newPrice int64) api.Order {
		return api.Order{Id: 5, Side: api.Buy, Qty: qty, Price: price, Filled: filled, Phase: api.Live, NewQty: newQty, NewPrice: newPrice}
	}
	for _, x := range []struct {
		o     api.Order
		worth int64
		e     api.Errno
	}{
		{great(1<<62, 1, 0, 0, 0), 1 << 62, api.OK},
		{great(1<<62, 2, 0, 0, 0), 0, api.ErrOver},
		{great(most, 1, 0, 0, 0), most, api.OK},
		{great(most, 2, most-1, 0, 0), 2, api.OK},
		{great(1<<32, 1<<32, 0, 0, 0), 0, api.ErrOver},
		// One of them is enough, be it the first or the other one.
		{great(1<<62, 2, 0, 1, 1), 0, api.ErrOver},
		{great(1, 1, 0, 1<<62, 2), 0, api.ErrOver},
		{great(1<<62, 2, 0, 1<<62, 4), 0, api.ErrOver},
		// 2^64 and 2^63 would wrap round to 0 and below it.
		{great(9, 1, 0, 1<<33, 1<<31), 0, api.ErrOver},
		{great(9, 1, 0, 1<<32, 1<<31), 0, api.ErrOver},
		// What is pending and no more than what was done asks for no product.
		{great(9, 1, 5, 5, most), 4, api.OK},
		{great(9, 1, 5, 3, most), 4, api.OK},
		{great(9, 1, 5, 6, most), most, api.OK},
		{great(9, 1, 5, 7, most), 0, api.ErrOver},
	} {
		if got, err := order.Worth(x.o); got != x.worth || err != x.e {
			t.Errorf("Worth(%+v) = %d, %d; want %d, %d", x.o, got, err, x.worth, x.e)
		}
		x.o.Phase, x.o.NewQty, x.o.NewPrice = api.Done, 0, 0
		if got, err := order.Worth(x.o); got != 0 || err != api.OK {
			t.Errorf("Worth(%+v) = %d, %d", x.o, got, err)
		}
	}
}

// P7.4: of all orders of small numbers, right or not.
func TestCountsSmall(t *testing.T) {
	for _, o := range small() {
		counts(t, o)
	}
}

// drawn is a number from 1 on: most often a small one, else any, or one of the greatest.
func drawn(draw *rand.Rand) int64 {
	switch draw.Intn(6) {
	case 0:
		return 1 + draw.Int63n(most)
	case 1:
		return most - draw.Int63n(3)
	case 2:
		return 1 + draw.Int63n(1<<33)
	}
	return 1 + draw.Int63n(12)
}

// drawnNote is a note of order 5, often one that tells of what is pending or open.
func drawnNote(draw *rand.Rand, o api.Order) api.Note {
	n := tells(1+draw.Intn(6), 0, 0)
	switch n.What {
	case api.Fill:
		if n.Qty = drawn(draw); draw.Intn(3) == 0 {
			n.Qty = o.Qty - o.Filled - draw.Int63n(2)
		}
	case api.Replaced:
		if n.Qty, n.Price = drawn(draw), drawn(draw); draw.Intn(3) > 0 {
			n.Qty, n.Price = o.NewQty, o.NewPrice
		}
	}
	return n
}

// P7.5: whatever befalls an order in its life, it stays right; no note makes more open of it, nor makes it worth more.
func TestLives(t *testing.T) {
	draw := rand.New(rand.NewSource(7))
	seen := map[int]int{}
	for range 20000 {
		o, err := order.Begin(api.Rec{Kind: api.New, Order: 5, Side: 1 + draw.Intn(2), Qty: drawn(draw), Price: drawn(draw)})
		if err != api.OK {
			t.Fatal(err)
		}
		for range 20 {
			counts(t, o)
			switch draw.Intn(5) {
			case 0, 1:
				q, p := drawn(draw), drawn(draw)
				changes(t, o, q, p)
				o, _ = order.Change(o, q, p)
			case 2:
				if ends(t, o); draw.Intn(5) == 0 {
					o, _ = order.End(o)
				}
			default:
				n := drawnNote(draw, o)
				takes(t, o, n)
				noMore(t, o, n)
				if o, err = order.Take(o, n); err == api.OK {
					seen[n.What]++
				}
			}
			if !order.Right(o) {
				t.Fatalf("%+v isn't right", o)
			}
		}
	}
	for what := api.Ack; what <= api.Refused; what++ {
		if seen[what] < 1000 {
			t.Errorf("notes %d were taken %d times", what, seen[what])
		}
	}
}

// P7.5: of each order that is right at the edges, too, with notes that tell of its own numbers and those beside.
func TestNoMoreEdges(t *testing.T) {
	for _, v := range rights() {
		o := made(v)
		for what := api.Ack; what <= api.Refused; what++ {
			for _, q := range []int64{0, 1, o.Qty, o.Qty - o.Filled, o.Qty - o.Filled - 1, o.NewQty, o.NewQty - o.Filled, most} {
				for _, p := range []int64{0, 1, o.Price, o.NewPrice, most} {
					n := api.Note{Seq: 1, What: what, Order: o.Id, Qty: q, Price: p}
					takes(t, o, n)
					noMore(t, o, n)
				}
			}
		}
	}
}
