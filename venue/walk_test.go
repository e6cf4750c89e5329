package venue_test

import (
	"math/rand"
	"slices"
	"testing"

	"snaffle/api"
	"snaffle/order"
	"snaffle/venue"
)

// P16.4, the chapter's example: a New is taken, accepted, and taken again: one note, Ack.
func TestAgain(t *testing.T) {
	m := news(5, 10, 3)
	v := all(t, api.Venue{}, meets(true, m, m)...)
	want := api.Venue{
		Orders: []api.Order{ordered(m, api.Live)},
		Notes:  []api.Note{{Seq: 1, What: api.Ack, Order: 5}},
	}
	if !same(v, want) {
		t.Errorf("%s; want %s", shown(v), shown(want))
	}
}

// P16.4: a message of which something came does nothing more when it comes again, at once or later, accepted or not.
func TestNothingMore(t *testing.T) {
	for _, first := range []bool{true, false} {
		for _, m := range []api.Msg{news(4, 1, 1), news(5, 10, 3), replaces(5, 5, 9, 7), replaces(5, 4, 9, 7), replaces(5, 30, 9, most), cancels(5)} {
			if m.Kind == api.Cancel && !first {
				continue
			}
			v := all(t, some(), meets(first, m)...)
			for _, between := range [][]call{
				nil, {fill(5, 1)}, {out(5)}, meets(true, cancels(5)), meets(true, replaces(5, 20, 1, most)), meets(false, replaces(5, 20, 1, most)),
			} {
				then := v
				for _, c := range between {
					then, _ = does(t, then, c)
				}
				for _, again := range []bool{true, false} {
					if is := all(t, then, meets(again, m)...); !same(is, then) {
						t.Errorf("%+v again (%v, %v): %s, and was %s", m, first, again, shown(is), shown(then))
					}
				}
			}
		}
	}
}

// follower asks a venue for orders, and knows of them what its notes tell.
type follower struct {
	orders map[int64]api.Order
	heard  int
	gone   []api.Msg
}

// asks for something of order id, if that may be asked for now; some message of before may go again, too.
func (f *follower) asks(t *testing.T, v api.Venue, r *rand.Rand, id int64) api.Venue {
	t.Helper()
	m := api.Msg{Order: id, Account: 1, Symbol: 2, Side: api.Sell, Lsn: int64(len(f.gone))}
	o, known := f.orders[id]
	err := api.OK
	switch what := r.Intn(4); {
	case !known:
		m.Kind, m.Qty, m.Price = api.New, 1+r.Int63n(9), 1+r.Int63n(5)
		o, err = order.Begin(api.Rec{Kind: api.New, Order: id, Account: 1, Symbol: 2, Side: api.Sell, Qty: m.Qty, Price: m.Price})
	case what == 0:
		m.Kind = api.Cancel
		o, err = order.End(o)
	case what == 1:
		m.Kind, m.Qty, m.Price = api.Replace, 1+r.Int63n(12), 1+r.Int63n(5)
		o, err = order.Change(o, m.Qty, m.Price)
		m.Version = o.Version
	default:
		if len(f.gone) == 0 {
			return v
		}
		return all(t, v, send(f.gone[r.Intn(len(f.gone))]))
	}
	if err != api.OK {
		return v
	}
	f.orders[id] = o
	f.gone = append(f.gone, m)
	return all(t, v, send(m))
}

// hears all notes that it hasn't heard.
func (f *follower) hears(t *testing.T, v api.Venue) {
	t.Helper()
	for _, n := range v.Notes[f.heard:] {
		o, err := order.Take(f.orders[n.Order], n)
		if err != api.OK {
			t.Fatalf("%+v can't take %+v: %d", f.orders[n.Order], n, err)
		}
		f.orders[n.Order] = o
		f.heard++
	}
}

// knows what the venue has of each order: all but what waits for an answer.
func (f *follower) knows(t *testing.T, v api.Venue) {
	t.Helper()
	for id, o := range f.orders {
		at := venue.Find(v, id)
		if at == api.None {
			if o.Phase != api.Sent {
				t.Fatalf("%+v isn't known", o)
			}
			continue
		}
		p := v.Orders[at]
		if o.Phase != p.Phase || o.Qty != p.Qty || o.Price != p.Price || o.Filled != p.Filled || o.Version < p.Version ||
			o.Account != p.Account || o.Symbol != p.Symbol || o.Side != p.Side {
			t.Fatalf("%+v is known as %+v", p, o)
		}
	}
}

// noMore holds that no more was done of an order than it asks for, and as much as the notes tell.
func noMore(t *testing.T, v api.Venue) {
	t.Helper()
	done := map[int64]int64{}
	for _, n := range v.Notes {
		if n.What == api.Fill {
			done[n.Order] += n.Qty
		}
	}
	for _, o := range v.Orders {
		if o.Filled != done[o.Id] || o.Filled > o.Qty {
			t.Fatalf("%d were done of %+v", done[o.Id], o)
		}
	}
}

// P16.4: of drawn walks: who follows the notes knows what the venue has, each call keeps a venue right, messages that
// come again and again do nothing more, and no more is done of an order than it asks for.
func TestFollowed(t *testing.T) {
	for seed := range int64(150) {
		r := rand.New(rand.NewSource(seed))
		f, v := follower{orders: map[int64]api.Order{}}, api.Venue{}
		for range 250 {
			if len(v.Notes) == 400 || len(v.Inbox) == 400 {
				break
			}
			id := 1 + r.Int63n(6)
			switch r.Intn(7) {
			case 0, 1:
				v = f.asks(t, v, r, id)
			case 2, 3, 4:
				v, _ = does(t, v, take(r.Intn(4) > 0))
			case 5:
				v, _ = does(t, v, fill(id, r.Int63n(5)))
			case 6:
				if r.Intn(5) == 0 {
					v, _ = does(t, v, out(id))
				}
			}
			if !venue.Right(v) {
				t.Fatalf("%s isn't right", shown(v))
			}
			noMore(t, v)
			if r.Intn(3) == 0 {
				f.hears(t, v)
				f.knows(t, v)
			}
		}
		f.hears(t, v)
		f.knows(t, v)
	}
}

// P16.4: whatever came, all messages that ever went come once more, each accepted: no more New, Replaced, Refused comes
// of them, though a Cancel that wasn't accepted may be now.
func TestAllAgain(t *testing.T) {
	for seed := range int64(60) {
		r := rand.New(rand.NewSource(seed))
		f, v := follower{orders: map[int64]api.Order{}}, api.Venue{}
		for range 80 {
			v = f.asks(t, v, r, 1+r.Int63n(6))
			v, _ = does(t, v, take(r.Intn(4) > 0))
			v, _ = does(t, v, fill(1+r.Int63n(6), 1+r.Int63n(3)))
			f.hears(t, v)
		}
		for len(v.Inbox) > 0 {
			v = all(t, v, take(true))
		}
		was := len(v.Notes)
		v = all(t, v, meets(true, f.gone...)...)
		more := slices.DeleteFunc(slices.Clone(v.Notes[was:]), func(n api.Note) bool { return n.What == api.Out })
		if len(more) > 0 {
			t.Fatalf("%+v came again", more)
		}
		was = len(v.Notes)
		if v = all(t, v, meets(true, f.gone...)...); len(v.Notes) != was {
			t.Fatalf("%+v came again", v.Notes[was:])
		}
	}
}

// Rules 1 to 3 of the document: any arguments, of whatever venue, are answered, and with what the chapter says.
func TestAny(t *testing.T) {
	for seed := range int64(4000) {
		r := rand.New(rand.NewSource(seed))
		drawn := func() int64 {
			if l := edges(); r.Intn(8) == 0 {
				return l[r.Intn(len(l))]
			}
			return 1 + r.Int63n(3)
		}
		numbers := func(n int) []int64 {
			l := make([]int64, n)
			for i := range l {
				l[i] = drawn()
			}
			return l
		}
		var v api.Venue
		for range r.Intn(3) {
			v.Inbox = append(v.Inbox, message(numbers(9)))
		}
		for i := range r.Intn(3) {
			o := ordered(news(int64(i+1), 2+drawn(), 2), api.Live)
			if r.Intn(4) == 0 {
				o = orderOf(numbers(12))
			}
			v.Orders = append(v.Orders, o)
		}
		for i := range r.Intn(3) {
			n := api.Note{Seq: int64(i + 1), What: api.Ack, Order: 1}
			if r.Intn(4) == 0 {
				n = noteOf(numbers(5))
			}
			v.Notes = append(v.Notes, n)
		}
		if venue.Right(v) != right(v) {
			t.Fatalf("Right(%s) = %v", shown(v), venue.Right(v))
		}
		for _, c := range []call{send(message(numbers(9))), take(true), take(false), fill(drawn(), drawn()), out(drawn())} {
			does(t, v, c)
		}
		v.Inbox = nil
		for _, c := range []call{send(news(drawn(), drawn(), 2)), take(true), fill(drawn(), drawn()), out(drawn())} {
			does(t, v, c)
		}
	}
}

// Rule 3 of the document: what is answered is new memory: whoever changes it changes nothing that was handed in, and
// no other answer.
func TestItsOwn(t *testing.T) {
	for _, c := range []call{send(news(1, 1, 1)), take(true), take(false), fill(5, 1), fill(5, 8), out(5)} {
		v := busy(t)
		one, _ := c.of(v)
		two, _ := c.of(v)
		want, _ := c.want(v)
		spoil(one)
		if !same(v, busy(t)) || !same(two, want) {
			t.Errorf("%s: there is %s, and %s", c.name(), shown(v), shown(two))
		}
	}
}
