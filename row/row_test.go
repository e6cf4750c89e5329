package row_test

import (
	"bytes"
	"encoding/hex"
	"hash/crc32"
	"reflect"
	"strings"
	"testing"

	"snaffle/api"
	"snaffle/book"
	"snaffle/row"
)

// P13.1: a state's bytes by the letter.
func TestBytes(t *testing.T) {
	s := api.State{
		Accounts: 1, Symbols: 2, Kill: true, Last: 0x0102030405, Seq: 0x0A0B0C, Lsn: 0x1A1B1C1D,
		Orders: []api.Order{
			{Id: 0x0100000002, Symbol: 1, Side: api.Buy, Qty: 0x0203040506070809, Price: 1, Phase: api.Sent},
			{
				Id: 0x0100000003, Side: api.Sell, Qty: 0x14, Price: 0x15, Filled: 0x06, Phase: api.Live,
				NewQty: 0x10, NewPrice: 0x18, Version: 0x1122334455667788, Asked: true,
			},
		},
		Cells:  []api.Cell{{Pos: -2, Sell: 0x0E, Open: 0x126}, {Pos: 0x0304, Buy: 0x0203040506070809, Open: 0x0203040506070809}},
		Limits: []api.Expo{{Long: 1, Short: 2, Open: 3}, {Long: most, Short: 0, Open: 0x0405}},
		Caps:   []int64{0x0607},
	}
	want := strings.ReplaceAll("736e6166 01 02 01 02"+
		"0000000102030405 00000000000a0b0c 000000001a1b1c1d"+
		"0000000100000002 00 01 01 01 0203040506070809 0000000000000001 0000000000000000"+
		"0000000000000000 0000000000000000 0000000000000000 00"+
		"0000000100000003 00 00 02 02 0000000000000014 0000000000000015 0000000000000006"+
		"0000000000000010 0000000000000018 1122334455667788 01"+
		"fffffffffffffffe 0000000000000304"+
		"0000000000000001 0000000000000002 0000000000000003"+
		"7fffffffffffffff 0000000000000000 0000000000000405"+
		"0000000000000607", " ", "")
	got, err := row.Encode(s)
	n := len(want) / 2
	if err != api.OK || len(got) != n+4 || hex.EncodeToString(got[:n]) != want {
		t.Fatalf("Encode = %x, %d; want %s and a sum", got, err, want)
	}
	sum := crc32.ChecksumIEEE(got[:n])
	for i := range 4 {
		if got[n+i] != byte(sum>>(8*i)) {
			t.Errorf("of the sum %08x the byte at %d is %02x", sum, n+i, got[n+i])
		}
	}
	if row.Size(s) != n+4 {
		t.Errorf("Size = %d; want %d", row.Size(s), n+4)
	}
}

// P13.1: the chapter's example: a state of one account and symbol without orders has 76 bytes.
func TestExample(t *testing.T) {
	s := begun(t, 1, 1)
	if b, err := row.Encode(s); err != api.OK || len(b) != 76 || row.Size(s) != 76 {
		t.Errorf("Encode = %x, %d; Size = %d", b, err, row.Size(s))
	}
}

// P13.1: Encode and Size are what the library tells, of states of all sizes and at all ends; both change nothing of
// what was handed in, and the bytes are new.
func TestEncode(t *testing.T) {
	for _, s := range states(t) {
		want := fieldsOf(s).bytes()
		given := roomy(s)
		was := copied(wholly(given))
		if n := row.Size(given); n != len(want) || n != sized(s.Accounts, s.Symbols, len(s.Orders)) {
			t.Fatalf("Size(%+v) = %d; want %d", s, n, len(want))
		}
		got, err := row.Encode(given)
		if err != api.OK || !bytes.Equal(got, want) {
			t.Fatalf("Encode(%+v) = %x, %d; want %x", s, got, err, want)
		}
		clear(got[:cap(got)])
		if again, err := row.Encode(given); err != api.OK || !bytes.Equal(again, want) {
			t.Fatalf("Encode(%+v) once more = %x, %d; want %x", s, again, err, want)
		}
		if !same(wholly(given), was) {
			t.Fatalf("Encode or Size changed %+v", s)
		}
	}
}

// roomy is a state with room behind each of its lists, in which something stands.
func roomy(s api.State) api.State {
	s = copied(s)
	s.Orders = append(s.Orders, api.Order{Id: 71}, api.Order{Id: 72})[:len(s.Orders)]
	s.Cells = append(s.Cells, api.Cell{Pos: 73}, api.Cell{Pos: 74})[:len(s.Cells)]
	s.Limits = append(s.Limits, api.Expo{Long: 75}, api.Expo{Long: 76})[:len(s.Limits)]
	s.Caps = append(s.Caps, 77, 78)[:len(s.Caps)]
	return s
}

// wholly is a state with lists that have all their room.
func wholly(s api.State) api.State {
	s.Orders, s.Cells = s.Orders[:cap(s.Orders)], s.Cells[:cap(s.Cells)]
	s.Limits, s.Caps = s.Limits[:cap(s.Limits)], s.Caps[:cap(s.Caps)]
	return s
}

// P13.1: a state that isn't right has no bytes.
func TestEncodeWrong(t *testing.T) {
	for name, spoils := range wrongs() {
		s := copied(busy(t))
		spoils(&s)
		if book.Right(s) {
			t.Fatalf("%s: is right", name)
		}
		if b, err := row.Encode(s); err != api.ErrArg || len(b) != 0 {
			t.Errorf("%s: Encode = %x, %d; want nothing, %d", name, b, err, api.ErrArg)
		}
		if n := row.Size(s); n != 0 {
			t.Errorf("%s: Size = %d", name, n)
		}
	}
}

// wrongs are changes that make busy no state that is right.
func wrongs() map[string]func(s *api.State) {
	return map[string]func(s *api.State){
		"nothing":                 func(s *api.State) { *s = api.State{} },
		"no accounts":             func(s *api.State) { s.Accounts = 0 },
		"accounts below 0":        func(s *api.State) { s.Accounts, s.Symbols = -2, -3 },
		"too many accounts":       func(s *api.State) { s.Accounts = 9 },
		"very many":               func(s *api.State) { s.Accounts, s.Symbols = most, most },
		"accounts beyond a byte":  func(s *api.State) { s.Accounts += 256 },
		"no symbols":              func(s *api.State) { s.Symbols = 0 },
		"symbols and accounts":    func(s *api.State) { s.Accounts, s.Symbols = 3, 2 },
		"a cell less":             func(s *api.State) { s.Cells = s.Cells[:5] },
		"a limit more":            func(s *api.State) { s.Limits = append(s.Limits, api.Expo{}) },
		"a cap less":              func(s *api.State) { s.Caps = s.Caps[:1] },
		"no orders":               func(s *api.State) { s.Orders = nil },
		"orders turned about":     func(s *api.State) { s.Orders[0], s.Orders[1] = s.Orders[1], s.Orders[0] },
		"an order that is wrong":  func(s *api.State) { s.Orders[0].Side = 3 },
		"a side beyond a byte":    func(s *api.State) { s.Orders[0].Side += 256 },
		"a phase beyond a byte":   func(s *api.State) { s.Orders[0].Phase += 256 },
		"an order of no account":  func(s *api.State) { s.Orders[0].Account = 2 },
		"a cell that is another":  func(s *api.State) { s.Cells[0].Buy++ },
		"a cell that isn't right": func(s *api.State) { s.Cells[2].Pos = least },
		"a limit below 0":         func(s *api.State) { s.Limits[5].Open = -1 },
		"a cap below 0":           func(s *api.State) { s.Caps[1] = -1 },
		"last below an order's":   func(s *api.State) { s.Last = 9 },
		"last above all":          func(s *api.State) { s.Last = api.MaxId + 1 },
		"seq above all":           func(s *api.State) { s.Seq = api.MaxLsn + 1 },
		"lsn above all":           func(s *api.State) { s.Lsn = api.MaxLsn + 1 },
		"lsn below 0":             func(s *api.State) { s.Lsn = -1 },
	}
}

// alike holds what Same answers of two states, from both sides.
func alike(t *testing.T, what any, a, b api.State, want bool) {
	t.Helper()
	if got := row.Same(a, b); got != want {
		t.Errorf("%v: Same(%+v, %+v) = %v", what, a, b, got)
	}
	if got := row.Same(b, a); got != want {
		t.Errorf("%v: Same(%+v, %+v) = %v", what, b, a, got)
	}
}

// others calls f for each way in which one of the numbers and flags within v, or the length of a list, becomes another.
func others(v reflect.Value, name string, f func(name string)) {
	switch v.Kind() {
	case reflect.Struct:
		for i := range v.NumField() {
			others(v.Field(i), name+"."+v.Type().Field(i).Name, f)
		}
	case reflect.Slice:
		for i := range v.Len() {
			others(v.Index(i), name+"[]", f)
		}
		otherLength(v, name, f)
	case reflect.Bool:
		v.SetBool(!v.Bool())
		f(name)
		v.SetBool(!v.Bool())
	default:
		was := v.Int()
		for _, n := range []int64{was + 1, was - 1, -was - 1, was + 256, was ^ 1<<32, was ^ least} {
			v.SetInt(n)
			f(name)
		}
		v.SetInt(was)
	}
}

// otherLength calls f with a list that lacks its first or its last, or has one more.
func otherLength(v reflect.Value, name string, f func(name string)) {
	whole := reflect.ValueOf(v.Interface())
	n := whole.Len()
	if n > 0 {
		v.Set(whole.Slice(1, n))
		f(name + " without its first")
		v.Set(whole.Slice(0, n-1))
		f(name + " without its last")
	}
	zero := reflect.Zero(v.Type().Elem())
	v.Set(reflect.Append(whole.Slice3(0, n, n), zero))
	f(name + " with one more")
	v.Set(reflect.AppendSlice(reflect.Append(reflect.MakeSlice(v.Type(), 0, n+1), zero), whole))
	f(name + " with one ahead")
	v.Set(whole)
}

// P13.3: states are the same as others of lists of their own, and not the same when any part is another.
func TestSame(t *testing.T) {
	wrong := api.State{
		Accounts: -3, Symbols: most, Orders: []api.Order{{}, {Id: -1, Phase: 9}}, Cells: []api.Cell{{Pos: least, Buy: -1}, {}},
		Limits: []api.Expo{{Long: -1, Short: -2, Open: -3}}, Caps: []int64{-1, 0, least}, Last: -1, Seq: -2, Lsn: -3,
	}
	for i, s := range []api.State{busy(t), outermost(t), begun(t, 2, 1), wrong, {}, {Cells: make([]api.Cell, 1)}} {
		alike(t, i, s, roomy(s), true)
		other, count := copied(s), 0
		others(reflect.ValueOf(&other).Elem(), "state", func(name string) {
			count++
			alike(t, name, s, other, false)
		})
		if !reflect.DeepEqual(other, copied(s)) || count < 39 {
			t.Errorf("%d ways; left as %+v", count, other)
		}
	}
}

// P13.3: parts that stand elsewhere are others.
func TestSameMoved(t *testing.T) {
	whole := busy(t)
	for name, change := range map[string]func(s *api.State){
		"accounts and symbols": func(s *api.State) { s.Accounts, s.Symbols = s.Symbols, s.Accounts },
		"orders":               func(s *api.State) { s.Orders[0], s.Orders[1] = s.Orders[1], s.Orders[0] },
		"cells":                func(s *api.State) { s.Cells[0], s.Cells[1] = s.Cells[1], s.Cells[0] },
		"limits":               func(s *api.State) { s.Limits[0], s.Limits[1] = s.Limits[1], s.Limits[0] },
		"caps":                 func(s *api.State) { s.Caps[0], s.Caps[1] = s.Caps[1], s.Caps[0] },
		"last and seq":         func(s *api.State) { s.Last, s.Seq = s.Seq, s.Last },
		"seq and lsn":          func(s *api.State) { s.Seq, s.Lsn = s.Lsn, s.Seq },
	} {
		s := copied(whole)
		change(&s)
		alike(t, name, whole, s, false)
	}
}

// P13.3: a list that is nil and one that is empty are the same, each list by itself.
func TestSameEmpty(t *testing.T) {
	empty := api.State{Orders: []api.Order{}, Cells: []api.Cell{}, Limits: []api.Expo{}, Caps: []int64{}}
	for n := range 16 {
		s := api.State{}
		if n&1 != 0 {
			s.Orders = empty.Orders
		}
		if n&2 != 0 {
			s.Cells = empty.Cells
		}
		if n&4 != 0 {
			s.Limits = empty.Limits
		}
		if n&8 != 0 {
			s.Caps = busy(t).Caps[:0]
		}
		alike(t, n, s, api.State{}, true)
		alike(t, n, s, empty, true)
		s.Last = 1
		alike(t, n, s, empty, false)
	}
}

// P13.3, rule 3: Same changes nothing of what was handed in.
func TestSameLeaves(t *testing.T) {
	a, b := roomy(busy(t)), roomy(full(t))
	wasA, wasB := copied(wholly(a)), copied(wholly(b))
	if row.Same(a, b) || !row.Same(a, a) || !row.Same(b, b) {
		t.Error("busy and full")
	}
	if !same(wholly(a), wasA) || !same(wholly(b), wasB) {
		t.Error("what was handed in changed")
	}
}
