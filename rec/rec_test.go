package rec_test

import (
	"math"
	"math/rand"
	"testing"

	"snaffle/api"
	"snaffle/rec"
)

const (
	most  = math.MaxInt64
	least = math.MinInt64
)

// Where in values each field of a record stands.
const (
	order = iota
	account
	symbol
	side
	qty
	price
	long
	short
	open
	on
	seq
	what
	fields
)

// values are all fields of a record beside its kind; on is 1 or 0.
type values [fields]int64

// span is from where to where a field may be.
type span struct{ from, to int64 }

// shape is of one kind, and tells where the fields that it names may be; all others are 0 and false.
type shape struct {
	kind int
	may  map[int]span
}

// shapes are all that the chapter names; a record is right if it is of one of them.
func shapes() []shape {
	id, up, free := span{1, 1000000000000}, span{1, most}, span{0, most}
	eight, number := span{0, 7}, span{1, 1000000000}
	is := func(n int64) span { return span{n, n} }
	l := []shape{
		{1, map[int]span{order: id, account: eight, symbol: eight, side: {1, 2}, qty: up, price: up}},
		{2, map[int]span{order: id, qty: up, price: up}},
		{3, map[int]span{order: id}},
		{4, map[int]span{account: eight, symbol: eight, long: free, short: free, open: free}},
		{4, map[int]span{account: eight, symbol: is(-1), open: free}},
		{5, map[int]span{on: {0, 1}}},
		{6, map[int]span{seq: number, what: is(3), order: id, qty: up}},
		{6, map[int]span{seq: number, what: is(5), order: id, qty: up, price: up}},
	}
	for _, n := range []int64{1, 2, 4, 6} {
		l = append(l, shape{6, map[int]span{seq: number, what: is(n), order: id}})
	}
	return l
}

// named are a kind's numbers, by the fields that they are of, in order.
func named(kind int) []int {
	switch kind {
	case 1:
		return []int{order, account, symbol, side, qty, price}
	case 2:
		return []int{order, qty, price}
	case 3:
		return []int{order}
	case 4:
		return []int{account, symbol, long, short, open}
	case 5:
		return []int{on}
	case 6:
		return []int{seq, what, order, qty, price}
	}
	return nil
}

// kinds are those that there are, and others.
func kinds() []int {
	return []int{1, 2, 3, 4, 5, 6, 0, -1, 7, 8, 255, 257, 1<<32 + 1, 1<<32 + 5, math.MaxInt, math.MinInt}
}

// edges are numbers on both sides of each border that any field has.
func edges() []int64 {
	l := []int64{most, most - 1, least, least + 1, 1<<32 + 1, 1<<32 + 5, -1 << 32, 1<<40 + 3, 1<<63 - 1<<32}
	for n := int64(-3); n <= 10; n++ {
		l = append(l, n)
	}
	for _, n := range []int64{1000000000, 1000000000000, 1 << 31, 1 << 32} {
		l = append(l, n-1, n, n+1)
	}
	return l
}

// has this kind a shape that such values are of?
func has(kind int, v values) bool {
	for _, s := range shapes() {
		if s.kind == kind && s.fits(v) {
			return true
		}
	}
	return false
}

func (s shape) fits(v values) bool {
	for i, n := range v {
		// What a shape doesn't name has the span from 0 to 0.
		if n < s.may[i].from || n > s.may[i].to {
			return false
		}
	}
	return true
}

// record of that kind with these values.
func record(kind int, v values) api.Rec {
	return api.Rec{
		Kind: kind, Order: v[order], Account: int(v[account]), Symbol: int(v[symbol]), Side: int(v[side]),
		Qty: v[qty], Price: v[price], Long: v[long], Short: v[short], Open: v[open],
		On: v[on] == 1, Seq: v[seq], What: int(v[what]),
	}
}

// body is what numbers those of the values have that a kind names.
func body(kind int, v values) [6]int64 {
	var b [6]int64
	for i, field := range named(kind) {
		b[i] = v[field]
	}
	return b
}

// rights are values of each shape: all at their least, all at their greatest, and each field by itself at
// the edges that it may have.
func rights() (l []values, kind []int) {
	add := func(s shape, v values) { l, kind = append(l, v), append(kind, s.kind) }
	for _, s := range shapes() {
		var low, high values
		for i, may := range s.may {
			low[i], high[i] = may.from, may.to
		}
		add(s, low)
		add(s, high)
		for i, may := range s.may {
			for _, n := range edges() {
				if n >= may.from && n <= may.to {
					v := low
					v[i] = n
					add(s, v)
				}
			}
		}
	}
	return l, kind
}

// holds that what Right, Pack and Frame tell of such a record is what its shape says.
func holds(t *testing.T, kind int, v values) {
	t.Helper()
	r, right := record(kind, v), has(kind, v)
	var want [6]int64
	wantErr := api.ErrArg
	if right {
		want, wantErr = body(kind, v), api.OK
	}
	if got := rec.Right(r); got != right {
		t.Fatalf("Right(%+v) = %v", r, got)
	}
	if got, err := rec.Pack(r); got != want || err != wantErr {
		t.Fatalf("Pack(%+v) = %v, %d; want %v, %d", r, got, err, want, wantErr)
	}
	f := api.Frame{}
	if right {
		f = api.Frame{Epoch: 8, Lsn: 9, Kind: kind, Body: want}
	}
	if got, err := rec.Frame(r, 9, 8); got != f || err != wantErr {
		t.Fatalf("Frame(%+v, 9, 8) = %v, %d; want %v, %d", r, got, err, f, wantErr)
	}
}

// reads holds that what Unpack and Of tell of such numbers is the record of that kind that has them.
func reads(t *testing.T, kind int, b [6]int64) {
	t.Helper()
	var v values
	for i, field := range named(kind) {
		v[field] = b[i]
	}
	want, wantErr := api.Rec{}, api.ErrForm
	if has(kind, v) && body(kind, v) == b {
		want, wantErr = record(kind, v), api.OK
	}
	if got, err := rec.Unpack(kind, b); got != want || err != wantErr {
		t.Fatalf("Unpack(%d, %v) = %+v, %d; want %+v, %d", kind, b, got, err, want, wantErr)
	}
	for _, f := range []api.Frame{{Kind: kind, Body: b}, {Epoch: 3, Lsn: 4, Kind: kind, Body: b}, {Epoch: most, Lsn: least, Kind: kind, Body: b}} {
		if got, err := rec.Of(f); got != want || err != wantErr {
			t.Fatalf("Of(%v) = %+v, %d; want %+v, %d", f, got, err, want, wantErr)
		}
	}
}

// some are records by name, one of each shape, with their numbers by the letter.
func some() []struct {
	r api.Rec
	b [6]int64
} {
	return []struct {
		r api.Rec
		b [6]int64
	}{
		{api.Rec{Kind: api.New, Order: 12, Account: 3, Symbol: 4, Side: api.Sell, Qty: 5, Price: 6}, [6]int64{12, 3, 4, 2, 5, 6}},
		{api.Rec{Kind: api.Replace, Order: 12, Qty: 5, Price: 6}, [6]int64{12, 5, 6, 0, 0, 0}},
		{api.Rec{Kind: api.Cancel, Order: 12}, [6]int64{12, 0, 0, 0, 0, 0}},
		{api.Rec{Kind: api.Bound, Account: 3, Symbol: 4, Long: 7, Short: 8, Open: 9}, [6]int64{3, 4, 7, 8, 9, 0}},
		{api.Rec{Kind: api.Bound}, [6]int64{0, 0, 0, 0, 0, 0}},
		{api.Rec{Kind: api.Bound, Account: 3, Symbol: api.None, Open: 9}, [6]int64{3, -1, 0, 0, 9, 0}},
		{api.Rec{Kind: api.Kill, On: true}, [6]int64{1, 0, 0, 0, 0, 0}},
		{api.Rec{Kind: api.Kill}, [6]int64{0, 0, 0, 0, 0, 0}},
		{api.Rec{Kind: api.Event, Seq: 10, What: api.Ack, Order: 12}, [6]int64{10, 1, 12, 0, 0, 0}},
		{api.Rec{Kind: api.Event, Seq: 10, What: api.Reject, Order: 12}, [6]int64{10, 2, 12, 0, 0, 0}},
		{api.Rec{Kind: api.Event, Seq: 10, What: api.Fill, Order: 12, Qty: 5}, [6]int64{10, 3, 12, 5, 0, 0}},
		{api.Rec{Kind: api.Event, Seq: 10, What: api.Out, Order: 12}, [6]int64{10, 4, 12, 0, 0, 0}},
		{api.Rec{Kind: api.Event, Seq: 10, What: api.Replaced, Order: 12, Qty: 5, Price: 6}, [6]int64{10, 5, 12, 5, 6, 0}},
		{api.Rec{Kind: api.Event, Seq: 10, What: api.Refused, Order: 12}, [6]int64{10, 6, 12, 0, 0, 0}},
	}
}

// P6.1, P6.2: records by name, the chapter's example among them, both ways.
func TestByName(t *testing.T) {
	for _, x := range some() {
		if !rec.Right(x.r) {
			t.Errorf("%+v isn't right", x.r)
		}
		if got, err := rec.Pack(x.r); got != x.b || err != api.OK {
			t.Errorf("Pack(%+v) = %v, %d; want %v", x.r, got, err, x.b)
		}
		if got, err := rec.Unpack(x.r.Kind, x.b); got != x.r || err != api.OK {
			t.Errorf("Unpack(%d, %v) = %+v, %d; want %+v", x.r.Kind, x.b, got, err, x.r)
		}
		f := api.Frame{Epoch: 2, Lsn: 7, Kind: x.r.Kind, Body: x.b}
		if got, err := rec.Frame(x.r, 7, 2); got != f || err != api.OK {
			t.Errorf("Frame(%+v, 7, 2) = %v, %d; want %v", x.r, got, err, f)
		}
		if got, err := rec.Of(f); got != x.r || err != api.OK {
			t.Errorf("Of(%v) = %+v, %d; want %+v", f, got, err, x.r)
		}
	}
}

// P6.1: a field that its kind doesn't name makes any record wrong; named by hand, one of each field a kind.
func TestFieldsOfOthers(t *testing.T) {
	others := []func(r *api.Rec){
		func(r *api.Rec) { r.Order = 1 }, func(r *api.Rec) { r.Account = 1 }, func(r *api.Rec) { r.Symbol = 1 },
		func(r *api.Rec) { r.Side = 1 }, func(r *api.Rec) { r.Qty = 1 }, func(r *api.Rec) { r.Price = 1 },
		func(r *api.Rec) { r.Long = 1 }, func(r *api.Rec) { r.Short = 1 }, func(r *api.Rec) { r.Open = 1 },
		func(r *api.Rec) { r.On = true }, func(r *api.Rec) { r.Seq = 1 }, func(r *api.Rec) { r.What = 1 },
	}
	for _, x := range some() {
		mine := map[int]bool{}
		for _, field := range named(x.r.Kind) {
			mine[field] = true
		}
		for field, set := range others {
			r := x.r
			set(&r)
			if got, err := rec.Pack(r); !mine[field] && (rec.Right(r) || got != [6]int64{} || err != api.ErrArg) {
				t.Errorf("%+v: Right = %v, Pack = %v, %d", r, rec.Right(r), got, err)
			}
		}
	}
}

// P6.1, P6.2: each record that is right, and each that isn't by one field, at all edges.
func TestEachField(t *testing.T) {
	l, kind := rights()
	for i, v := range l {
		if !has(kind[i], v) {
			t.Fatalf("%v are no values of %d", v, kind[i])
		}
		holds(t, kind[i], v)
		for field := range fields {
			for _, n := range edges() {
				w := v
				if w[field] = n; field != on || n == 0 || n == 1 {
					holds(t, kind[i], w)
				}
			}
		}
	}
}

// P6.1: nor are two fields that make a record wrong right together.
func TestTwoFields(t *testing.T) {
	l := []int64{-2, -1, 0, 1, 2, 3, 5, 7, 8, most, least}
	for _, s := range shapes() {
		var low values
		for i, may := range s.may {
			low[i] = may.from
		}
		for a := range fields {
			for b := range a {
				for _, n := range l {
					for _, m := range l {
						v := low
						v[a], v[b] = n, m
						if v[on] == 0 || v[on] == 1 {
							holds(t, s.kind, v)
						}
					}
				}
			}
		}
	}
}

// P6.1: of other kinds no record is right, and none is read.
func TestKinds(t *testing.T) {
	l, _ := rights()
	for _, kind := range kinds() {
		for _, v := range l {
			holds(t, kind, v)
		}
		for _, x := range some() {
			reads(t, kind, x.b)
		}
		reads(t, kind, [6]int64{})
		holds(t, kind, values{})
	}
}

// P6.1, P6.2: numbers are a record's or none's: each one of the six at all edges, those behind the kind's own
// among them, and those that are greater than the field's kind of number may hold.
func TestEachNumber(t *testing.T) {
	l, kind := rights()
	for i, v := range l {
		b := body(kind[i], v)
		reads(t, kind[i], b)
		for place := range b {
			for _, n := range edges() {
				c := b
				c[place] = n
				reads(t, kind[i], c)
			}
		}
	}
}

// P6.1: the switch is told by 1 or 0 and nothing else.
func TestKillNumbers(t *testing.T) {
	for _, n := range edges() {
		want, wantErr := api.Rec{}, api.ErrForm
		if n == 0 || n == 1 {
			want, wantErr = api.Rec{Kind: api.Kill, On: n == 1}, api.OK
		}
		if got, err := rec.Unpack(api.Kill, [6]int64{n}); got != want || err != wantErr {
			t.Errorf("Unpack of %d = %+v, %d; want %+v, %d", n, got, err, want, wantErr)
		}
		if got, err := rec.Unpack(api.Kill, [6]int64{1, n}); n != 0 && (got != api.Rec{} || err != api.ErrForm) {
			t.Errorf("Unpack of 1, %d = %+v, %d", n, got, err)
		}
	}
}

// P6.2: a note's record has what the note has, whether or not it is right.
func TestOfNote(t *testing.T) {
	for i, n := range edges() {
		l := edges()
		m := l[(i+1)%len(l)]
		for _, note := range []api.Note{
			{Seq: n}, {What: int(n)}, {Order: n}, {Qty: n}, {Price: n},
			{Seq: n, What: 3, Order: 7, Qty: m, Price: 9},
			{Seq: 1, What: int(m), Order: n, Qty: 4, Price: m},
		} {
			want := api.Rec{Kind: 6, Seq: note.Seq, What: note.What, Order: note.Order, Qty: note.Qty, Price: note.Price}
			if got := rec.OfNote(note); got != want {
				t.Fatalf("OfNote(%+v) = %+v", note, got)
			}
		}
	}
	if got := rec.OfNote(api.Note{}); got != (api.Rec{Kind: api.Event}) {
		t.Errorf("OfNote of nothing = %+v", got)
	}
	right := rec.OfNote(api.Note{Seq: 1, What: api.Replaced, Order: 3, Qty: 4, Price: 5})
	if wrong := rec.OfNote(api.Note{Seq: 1, What: api.Out, Order: 3, Qty: 4}); !rec.Right(right) || rec.Right(wrong) {
		t.Errorf("%+v, %+v: the first one is right, the other one isn't", right, wrong)
	}
}

// P6.2: a frame has whatever number and epoch it is told; it is the record alone that must be right.
func TestFrameOfAnyNumber(t *testing.T) {
	r := api.Rec{Kind: api.Cancel, Order: 12}
	wrong := api.Rec{Kind: api.Cancel}
	for _, lsn := range edges() {
		for _, epoch := range edges() {
			want := api.Frame{Epoch: epoch, Lsn: lsn, Kind: 3, Body: [6]int64{12}}
			got, err := rec.Frame(r, lsn, epoch)
			if got != want || err != api.OK {
				t.Fatalf("Frame(%+v, %d, %d) = %v, %d; want %v", r, lsn, epoch, got, err, want)
			}
			if back, err := rec.Of(got); back != r || err != api.OK {
				t.Fatalf("Of(%v) = %+v, %d", got, back, err)
			}
			if got, err := rec.Frame(wrong, lsn, epoch); got != (api.Frame{}) || err != api.ErrArg {
				t.Fatalf("Frame(%+v, %d, %d) = %v, %d", wrong, lsn, epoch, got, err)
			}
		}
	}
}

// P6.3: a record is read from its numbers as it was, and numbers are what their record has.
func TestThereAndBack(t *testing.T) {
	l, kind := rights()
	for i, v := range l {
		r := record(kind[i], v)
		b, err := rec.Pack(r)
		if err != api.OK {
			t.Fatalf("Pack(%+v): %d", r, err)
		}
		if got, err := rec.Unpack(r.Kind, b); got != r || err != api.OK {
			t.Fatalf("Unpack(%d, %v) = %+v, %d; want %+v", r.Kind, b, got, err, r)
		}
	}
}

// P6.3: so it is of many records whose fields are drawn from where they may be.
func TestManyThereAndBack(t *testing.T) {
	draw := rand.New(rand.NewSource(6))
	for range 3000 {
		for _, s := range shapes() {
			var v values
			for i := range fields {
				if may, ok := s.may[i]; ok {
					v[i] = may.from + int64(draw.Uint64()%(uint64(may.to-may.from)+1))
				}
			}
			holds(t, s.kind, v)
			reads(t, s.kind, body(s.kind, v))
			r := record(s.kind, v)
			f, _ := rec.Frame(r, 1, 1)
			if got, err := rec.Of(f); got != r || err != api.OK {
				t.Fatalf("Of(%v) = %+v, %d; want %+v", f, got, err, r)
			}
		}
	}
}

// P6.3: unlike records of a kind have unlike numbers.
func TestUnlike(t *testing.T) {
	type key struct {
		kind int
		b    [6]int64
	}
	seen := map[key]api.Rec{}
	l, kind := rights()
	for i, v := range l {
		r := record(kind[i], v)
		b, _ := rec.Pack(r)
		k := key{r.Kind, b}
		if was, ok := seen[k]; ok && was != r {
			t.Fatalf("%+v and %+v have the same numbers", was, r)
		}
		seen[k] = r
	}
}
