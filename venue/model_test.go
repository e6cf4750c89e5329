package venue_test

import (
	"cmp"
	"fmt"
	"math"
	"slices"
	"testing"

	"snaffle/api"
	"snaffle/venue"
)

// What the chapter says, told otherwise: which fields each kind of message, order and note may have stands in tables,
// and what a message does in lines, one for each that something comes of.

const (
	most  = math.MaxInt64
	least = math.MinInt64
)

// span is from where to where a number may be.
type span struct{ from, to int64 }

func is(n int64) span { return span{n, n} }

var (
	up    = span{1, most}
	eight = span{0, 7}
)

// fits: is each number within its span?
func fits(l []int64, in []span) bool {
	for i, n := range l {
		if n < in[i].from || n > in[i].to {
			return false
		}
	}
	return true
}

// fitsOne of the shapes?
func fitsOne(l []int64, shapes [][]span) bool {
	return slices.ContainsFunc(shapes, func(in []span) bool { return fits(l, in) })
}

// numbersOf a message.
func numbersOf(m api.Msg) []int64 {
	return []int64{int64(m.Kind), m.Order, int64(m.Account), int64(m.Symbol), int64(m.Side), m.Qty, m.Price, m.Version, m.Lsn}
}

// message of such numbers.
func message(l []int64) api.Msg {
	return api.Msg{
		Kind: int(l[0]), Order: l[1], Account: int(l[2]), Symbol: int(l[3]), Side: int(l[4]),
		Qty: l[5], Price: l[6], Version: l[7], Lsn: l[8],
	}
}

// messageShapes are what a message may be: New, Replace, Cancel.
func messageShapes() [][]span {
	id, side, lsn := span{1, 1000000000000}, span{1, 2}, span{0, 1000000000}
	return [][]span{
		{is(1), id, eight, eight, side, up, up, is(0), lsn},
		{is(2), id, eight, eight, side, up, up, up, lsn},
		{is(3), id, eight, eight, side, is(0), is(0), is(0), lsn},
	}
}

// numbersOfOrder are all that an order has.
func numbersOfOrder(o api.Order) []int64 {
	asked := int64(0)
	if o.Asked {
		asked = 1
	}
	return []int64{
		o.Id, int64(o.Account), int64(o.Symbol), int64(o.Side), o.Qty, o.Price, o.Filled, int64(o.Phase),
		o.NewQty, o.NewPrice, o.Version, asked,
	}
}

// orderOf such numbers.
func orderOf(l []int64) api.Order {
	return api.Order{
		Id: l[0], Account: int(l[1]), Symbol: int(l[2]), Side: int(l[3]), Qty: l[4], Price: l[5], Filled: l[6], Phase: int(l[7]),
		NewQty: l[8], NewPrice: l[9], Version: l[10], Asked: l[11] == 1,
	}
}

// orderShapes are what an order of such a quantity may be that a venue knows: Live, or Done.
func orderShapes(qty int64) [][]span {
	id, side, version := span{1, 1000000000000}, span{1, 2}, span{0, most}
	return [][]span{
		{id, eight, eight, side, up, up, {0, qty - 1}, is(2), is(0), is(0), version, is(0)},
		{id, eight, eight, side, up, up, {0, qty}, is(3), is(0), is(0), version, is(0)},
	}
}

// numbersOfNote are all that a note has.
func numbersOfNote(n api.Note) []int64 { return []int64{n.Seq, int64(n.What), n.Order, n.Qty, n.Price} }

// noteOf such numbers.
func noteOf(l []int64) api.Note {
	return api.Note{Seq: l[0], What: int(l[1]), Order: l[2], Qty: l[3], Price: l[4]}
}

// noteShapes are what a note of that number may be.
func noteShapes(seq int64) [][]span {
	id := span{1, 1000000000000}
	return [][]span{
		{is(seq), {1, 2}, id, is(0), is(0)},
		{is(seq), is(3), id, up, is(0)},
		{is(seq), is(4), id, is(0), is(0)},
		{is(seq), is(5), id, up, up},
		{is(seq), is(6), id, is(0), is(0)},
	}
}

// right venue, as the chapter says?
func right(v api.Venue) bool {
	ok := len(v.Inbox) <= 400 && len(v.Orders) <= 400 && len(v.Notes) <= 400
	for _, m := range v.Inbox {
		ok = ok && fitsOne(numbersOf(m), messageShapes())
	}
	last := int64(0)
	for _, o := range v.Orders {
		ok = ok && fitsOne(numbersOfOrder(o), orderShapes(o.Qty)) && o.Id > last
		last = o.Id
	}
	for i, n := range v.Notes {
		ok = ok && fitsOne(numbersOfNote(n), noteShapes(int64(i+1)))
	}
	return ok
}

// edges are numbers on both sides of each border that any field has.
func edges() []int64 {
	l := []int64{most, most - 1, least, least + 1, 1<<32 + 1, 1<<32 + 2, 1<<32 + 3, -1 << 32, 1 << 62}
	for n := int64(-3); n <= 11; n++ {
		l = append(l, n)
	}
	for _, n := range []int64{1000000, 1000000000, 1000000000000, 1 << 31, 1 << 32} {
		l = append(l, n-1, n, n+1)
	}
	return l
}

// samples of a shape: all at their least, all at their greatest, and in between; and of each of them each number by
// itself at all edges, whether or not it may be so.
func samples(in []span) [][]int64 {
	var l [][]int64
	for _, at := range []func(s span) int64{
		func(s span) int64 { return s.from },
		func(s span) int64 { return s.to },
		func(s span) int64 { return s.from + (s.to-s.from)/2 },
	} {
		var base []int64
		for _, s := range in {
			base = append(base, at(s))
		}
		l = append(l, base)
		for i := range base {
			for _, n := range edges() {
				other := slices.Clone(base)
				other[i] = n
				l = append(l, other)
			}
		}
	}
	return l
}

// same venue, list by list?
func same(v, w api.Venue) bool {
	return slices.Equal(v.Inbox, w.Inbox) && slices.Equal(v.Orders, w.Orders) && slices.Equal(v.Notes, w.Notes)
}

// shown is a venue as text; of long lists only their ends.
func shown(v api.Venue) string {
	return fmt.Sprintf("inbox %s, orders %s, notes %s", ends(v.Inbox), ends(v.Orders), ends(v.Notes))
}

func ends[T any](l []T) string {
	if n := len(l); n > 20 {
		return fmt.Sprintf("%+v .. %d in all .. %+v", l[:4], n, l[n-4:])
	}
	return fmt.Sprintf("%+v", l)
}

// roomy is a venue with room behind each of its lists, in which something stands.
func roomy(v api.Venue) api.Venue {
	v.Inbox = append(slices.Clone(v.Inbox), api.Msg{Order: 71}, api.Msg{Order: 72})[:len(v.Inbox)]
	v.Orders = append(slices.Clone(v.Orders), api.Order{Id: 73}, api.Order{Id: 74})[:len(v.Orders)]
	v.Notes = append(slices.Clone(v.Notes), api.Note{Seq: 75}, api.Note{Seq: 76})[:len(v.Notes)]
	return v
}

// wholly is a venue whose lists have all their room.
func wholly(v api.Venue) api.Venue {
	return api.Venue{Inbox: v.Inbox[:cap(v.Inbox)], Orders: v.Orders[:cap(v.Orders)], Notes: v.Notes[:cap(v.Notes)]}
}

// spoil all that a venue has.
func spoil(v api.Venue) {
	v = wholly(v)
	clear(v.Inbox)
	clear(v.Orders)
	clear(v.Notes)
}

// copied venue, in memory of its own.
func copied(v api.Venue) api.Venue {
	return api.Venue{Inbox: slices.Clone(v.Inbox), Orders: slices.Clone(v.Orders), Notes: slices.Clone(v.Notes)}
}

// but is a venue with something changed, in memory of its own.
func but(v api.Venue, change func(v *api.Venue)) api.Venue {
	v = copied(v)
	change(&v)
	return v
}

// call of a venue: Send, Take, Fill or Out with its arguments.
type call struct {
	name func() string
	of   func(v api.Venue) (api.Venue, api.Errno)
	want func(v api.Venue) (api.Venue, api.Errno)
}

func send(m api.Msg) call {
	return call{
		func() string { return fmt.Sprintf("Send(%+v)", m) },
		func(v api.Venue) (api.Venue, api.Errno) { return venue.Send(v, m) },
		func(v api.Venue) (api.Venue, api.Errno) { return sent(v, m) },
	}
}

func take(accepts bool) call {
	return call{
		func() string { return fmt.Sprintf("Take(%v)", accepts) },
		func(v api.Venue) (api.Venue, api.Errno) { return venue.Take(v, accepts) },
		func(v api.Venue) (api.Venue, api.Errno) { return taken(v, accepts) },
	}
}

func fill(id, qty int64) call {
	return call{
		func() string { return fmt.Sprintf("Fill(%d, %d)", id, qty) },
		func(v api.Venue) (api.Venue, api.Errno) { return venue.Fill(v, id, qty) },
		func(v api.Venue) (api.Venue, api.Errno) { return filled(v, id, qty) },
	}
}

func out(id int64) call {
	return call{
		func() string { return fmt.Sprintf("Out(%d)", id) },
		func(v api.Venue) (api.Venue, api.Errno) { return venue.Out(v, id) },
		func(v api.Venue) (api.Venue, api.Errno) { return ended(v, id) },
	}
}

// does a call, held to answer what the chapter says, to change nothing that was handed in, and to keep none of it.
func does(t *testing.T, v api.Venue, c call) (api.Venue, api.Errno) {
	t.Helper()
	v = roomy(v)
	was := copied(wholly(v))
	want, wantErr := c.want(v)
	got, err := c.of(v)
	if err != wantErr || !same(got, want) {
		t.Fatalf("%s of %s\n = %s, %d\nwant %s, %d", c.name(), shown(v), shown(got), err, shown(want), wantErr)
	}
	if !same(wholly(v), was) {
		t.Fatalf("%s changed %s to %s", c.name(), shown(was), shown(wholly(v)))
	}
	if err == api.OK {
		spoil(v)
		if !same(got, want) {
			t.Fatalf("%s: %s became %s with what was handed in", c.name(), shown(want), shown(got))
		}
	}
	return got, err
}

// all calls that go well, one behind the other.
func all(t *testing.T, v api.Venue, l ...call) api.Venue {
	t.Helper()
	for _, c := range l {
		is, err := does(t, v, c)
		if err != api.OK {
			t.Fatalf("%s of %s: %d", c.name(), shown(v), err)
		}
		v = is
	}
	return v
}

// refuses a call: the venue stays as it is.
func refuses(t *testing.T, what any, v api.Venue, c call, want api.Errno) {
	t.Helper()
	if got, err := does(t, v, c); err != want || !same(got, v) {
		t.Fatalf("%v: %s: %d, want %d; %s of %s", what, c.name(), err, want, shown(got), shown(v))
	}
}

// place of an order that a venue knows; -1: it doesn't.
func place(v api.Venue, id int64) int {
	return slices.IndexFunc(v.Orders, func(o api.Order) bool { return o.Id == id })
}

// noted is a venue with one more note, which tells of an order that is so now.
func noted(v api.Venue, o api.Order, what int, qty, price int64) api.Venue {
	return but(v, func(v *api.Venue) {
		v.Orders = append(slices.DeleteFunc(v.Orders, func(other api.Order) bool { return other.Id == o.Id }), o)
		slices.SortFunc(v.Orders, func(a, b api.Order) int { return cmp.Compare(a.Id, b.Id) })
		v.Notes = append(v.Notes, api.Note{Seq: int64(len(v.Notes) + 1), What: what, Order: o.Id, Qty: qty, Price: price})
	})
}

// sent is what the chapter says of Send.
func sent(v api.Venue, m api.Msg) (api.Venue, api.Errno) {
	if !right(v) || !fitsOne(numbersOf(m), messageShapes()) {
		return v, api.ErrArg
	}
	if len(v.Inbox) == 400 {
		return v, api.ErrFull
	}
	return but(v, func(v *api.Venue) { v.Inbox = append(v.Inbox, m) }), api.OK
}

// taken is what the chapter says of Take.
func taken(v api.Venue, accepts bool) (api.Venue, api.Errno) {
	if !right(v) {
		return v, api.ErrArg
	}
	if len(v.Inbox) == 0 {
		return v, api.ErrNone
	}
	m := v.Inbox[0]
	at := place(v, m.Order)
	if len(v.Notes) == 400 || len(v.Orders) == 400 && m.Kind == 1 && at < 0 {
		return v, api.ErrFull
	}
	left := but(v, func(v *api.Venue) { v.Inbox = slices.Delete(v.Inbox, 0, 1) })
	var o api.Order
	if at >= 0 {
		o = v.Orders[at]
	}
	switch live := o.Phase == 2; {
	case m.Kind == 1 && at < 0 && accepts:
		return noted(left, ordered(m, 2), 1, 0, 0), api.OK
	case m.Kind == 1 && at < 0:
		return noted(left, ordered(m, 3), 2, 0, 0), api.OK
	case m.Kind == 2 && live && m.Version > o.Version && accepts && m.Qty > o.Filled:
		o.Version, o.Qty, o.Price = m.Version, m.Qty, m.Price
		return noted(left, o, 5, m.Qty, m.Price), api.OK
	case m.Kind == 2 && live && m.Version > o.Version:
		o.Version = m.Version
		return noted(left, o, 6, 0, 0), api.OK
	case m.Kind == 3 && live && accepts:
		o.Phase = 3
		return noted(left, o, 4, 0, 0), api.OK
	}
	return left, api.OK
}

// ordered is the order of a message New, in that phase.
func ordered(m api.Msg, phase int) api.Order {
	return api.Order{Id: m.Order, Account: m.Account, Symbol: m.Symbol, Side: m.Side, Qty: m.Qty, Price: m.Price, Phase: phase}
}

// filled is what the chapter says of Fill.
func filled(v api.Venue, id, qty int64) (api.Venue, api.Errno) {
	if !right(v) || qty < 1 {
		return v, api.ErrArg
	}
	at := place(v, id)
	if at < 0 {
		return v, api.ErrNone
	}
	o := v.Orders[at]
	if o.Phase != 2 || o.Qty-o.Filled < qty {
		return v, api.ErrState
	}
	if len(v.Notes) == 400 {
		return v, api.ErrFull
	}
	o.Filled += qty
	if o.Filled == o.Qty {
		o.Phase = 3
	}
	return noted(v, o, 3, qty, 0), api.OK
}

// ended is what the chapter says of Out.
func ended(v api.Venue, id int64) (api.Venue, api.Errno) {
	if !right(v) {
		return v, api.ErrArg
	}
	at := place(v, id)
	if at < 0 {
		return v, api.ErrNone
	}
	o := v.Orders[at]
	if o.Phase != 2 {
		return v, api.ErrState
	}
	if len(v.Notes) == 400 {
		return v, api.ErrFull
	}
	o.Phase = 3
	return noted(v, o, 4, 0, 0), api.OK
}

// news, replaces, cancels are messages of an order of account 1 and symbol 2, to sell.
func news(id, qty, price int64) api.Msg {
	return api.Msg{Kind: api.New, Order: id, Account: 1, Symbol: 2, Side: api.Sell, Qty: qty, Price: price, Lsn: 1}
}

func replaces(id, qty, price, version int64) api.Msg {
	return api.Msg{
		Kind: api.Replace, Order: id, Account: 1, Symbol: 2, Side: api.Sell, Qty: qty, Price: price, Version: version, Lsn: 2,
	}
}

func cancels(id int64) api.Msg {
	return api.Msg{Kind: api.Cancel, Order: id, Account: 1, Symbol: 2, Side: api.Sell, Lsn: 3}
}

// meets: messages that come, and are taken, one behind the other.
func meets(accepts bool, l ...api.Msg) []call {
	var calls []call
	for _, m := range l {
		calls = append(calls, send(m), take(accepts))
	}
	return calls
}

// busy is a venue that knows four orders, Live and Done, with a note of each kind, and two messages that came.
func busy(t *testing.T) api.Venue {
	t.Helper()
	var v api.Venue
	v = all(t, v, meets(true, news(5, 10, 3), news(9, 20, 2), news(7, 4, 6), replaces(5, 12, 2, 1))...)
	v = all(t, v, meets(false, news(3, 8, 8), replaces(5, 6, 6, 3))...)
	v = all(t, v, fill(5, 4), fill(7, 4), out(9))
	return all(t, v, send(news(11, 5, 5)), send(cancels(5)))
}

// full is a venue that knows so many orders from 1000 on, and made so many notes, all of them Acks; the orders are Live.
func full(orders, notes int) api.Venue {
	var v api.Venue
	for i := range int64(orders) {
		v.Orders = append(v.Orders, ordered(news(1000+i, 10, 3), api.Live))
	}
	for i := range int64(notes) {
		v.Notes = append(v.Notes, api.Note{Seq: i + 1, What: api.Ack, Order: 1000 + i})
	}
	return v
}

// with is a venue to which messages came, behind those that it has.
func with(v api.Venue, l ...api.Msg) api.Venue {
	return but(v, func(v *api.Venue) { v.Inbox = append(v.Inbox, l...) })
}
