package limit_test

import (
	"math"
	"math/big"
	"math/rand"
	"slices"
	"testing"

	"snaffle/api"
	"snaffle/cell"
	"snaffle/limit"
)

const (
	most  = math.MaxInt64
	least = math.MinInt64
)

// three are an api.Expo's numbers: Long, Short, Open.
type three [3]int64

func (x three) expo() api.Expo { return api.Expo{Long: x[0], Short: x[1], Open: x[2]} }

// all three of one number.
func all(n int64) three { return three{n, n, n} }

// with another number at one place.
func (x three) with(place int, n int64) three {
	x[place] = n
	return x
}

// edges are numbers on both sides of 0, and those beside the first and the last one that there are.
func edges() []int64 {
	return []int64{
		least, least + 1, least + 2, -1<<62 - 1, -1 << 62, -1 << 32, -7, -2, -1, 0,
		1, 2, 6, 7, 1 << 31, 1 << 32, 1<<62 - 1, 1 << 62, most - 2, most - 1, most,
	}
}

// more is a number than another one, told by their difference, however great.
func more(a, b int64) bool {
	return new(big.Int).Sub(big.NewInt(a), big.NewInt(b)).Sign() > 0
}

// stands is what the chapter says: is one of them more than it was, and more than the limit's?
func stands(was, now, l three) bool {
	places := 0
	for i := range now {
		if more(now[i], was[i]) && more(now[i], l[i]) {
			places++
		}
	}
	return places > 0
}

// lowered is what the chapter says: is one of now's less than was's?
func lowered(was, now three) bool {
	places := 0
	for i := range now {
		if more(was[i], now[i]) {
			places++
		}
	}
	return places > 0
}

// holds Against and Lowers, and of each of the three AgainstCap, against the chapter.
func holds(t *testing.T, was, now, l three) {
	t.Helper()
	if got := limit.Against(was.expo(), now.expo(), l.expo()); got != stands(was, now, l) {
		t.Fatalf("Against(%v, %v, %v) = %v", was, now, l, got)
	}
	if got := limit.Lowers(was.expo(), now.expo()); got != lowered(was, now) {
		t.Fatalf("Lowers(%v, %v) = %v", was, now, got)
	}
	for i := range now {
		want := more(now[i], was[i]) && more(now[i], l[i])
		if got := limit.AgainstCap(was[i], now[i], l[i]); got != want {
			t.Fatalf("AgainstCap(%d, %d, %d) = %v", was[i], now[i], l[i], got)
		}
	}
}

// P9.1: a limit is right if none of its three is below 0, whatever the other two are.
func TestRight(t *testing.T) {
	for _, long := range edges() {
		for _, short := range edges() {
			for _, open := range edges() {
				l := api.Expo{Long: long, Short: short, Open: open}
				if got, want := limit.Right(l), min(long, short, open) >= 0; got != want {
					t.Fatalf("Right(%+v) = %v", l, got)
				}
			}
		}
	}
	for _, l := range []api.Expo{{}, {Long: 5, Short: 4, Open: 100}, all(most).expo()} {
		if !limit.Right(l) {
			t.Errorf("%+v isn't right", l)
		}
	}
	for _, l := range []api.Expo{{Long: -1}, {Short: -1}, {Open: -1}, all(least).expo()} {
		if limit.Right(l) {
			t.Errorf("%+v is right", l)
		}
	}
}

// P9.1: by name, the chapter's example among them; the limit is Long 5, Short 4, Open 100.
func TestAgainstByName(t *testing.T) {
	l := api.Expo{Long: 5, Short: 4, Open: 100}
	for name, x := range map[string]struct {
		was, now api.Expo
		want     bool
	}{
		"the chapter's":          {api.Expo{Long: 7}, api.Expo{Long: 6}, false},
		"nothing":                {api.Expo{}, api.Expo{}, false},
		"up to the limit":        {api.Expo{}, l, false},
		"one more long":          {l, api.Expo{Long: 6, Short: 4, Open: 100}, true},
		"one more short":         {l, api.Expo{Long: 5, Short: 5, Open: 100}, true},
		"one more open":          {l, api.Expo{Long: 5, Short: 4, Open: 101}, true},
		"all more":               {l, api.Expo{Long: 6, Short: 5, Open: 101}, true},
		"from far below":         {api.Expo{Long: -9}, api.Expo{Long: 6}, true},
		"more, and within":       {api.Expo{Long: 1, Short: 1, Open: 1}, api.Expo{Long: 2, Short: 2, Open: 2}, false},
		"beyond, and as it was":  {api.Expo{Long: 9, Short: 9, Open: 900}, api.Expo{Long: 9, Short: 9, Open: 900}, false},
		"beyond, and less":       {api.Expo{Long: 9, Short: 9, Open: 900}, api.Expo{Long: 8, Short: 8, Open: 899}, false},
		"beyond, and more":       {api.Expo{Long: 9}, api.Expo{Long: 10}, true},
		"back within":            {api.Expo{Long: 9, Short: 9, Open: 900}, l, false},
		"less, but short beyond": {api.Expo{Long: 9}, api.Expo{Long: 8, Short: 5}, true},
		"less, but short within": {api.Expo{Long: 9}, api.Expo{Long: 8, Short: 4}, false},
		"less, but open beyond":  {api.Expo{Long: 9, Short: 9}, api.Expo{Open: 101}, true},
		// Each is held against its own: it would be beyond another one's.
		"short as long":      {api.Expo{}, api.Expo{Short: 5}, true},
		"long above short's": {api.Expo{}, api.Expo{Long: 5}, false},
		"open above both":    {api.Expo{}, api.Expo{Open: 6}, false},
		"less than another":  {api.Expo{Long: 3, Short: 9}, api.Expo{Long: 6, Short: 9}, true},
		"below 0":            {api.Expo{Short: -9}, api.Expo{Short: -8}, false},
	} {
		if got := limit.Against(x.was, x.now, l); got != x.want {
			t.Errorf("%s: Against(%+v, %+v) = %v", name, x.was, x.now, got)
		}
	}
}

// P9.1: limits that aren't right stand against what is more than they are, too.
func TestAgainstWrongLimits(t *testing.T) {
	for _, x := range []struct {
		was, now, l three
		want        bool
	}{
		{all(0), all(0), all(-1), false},
		{all(0), three{1, 0, 0}, all(-1), true},
		{all(-5), all(-2), all(-2), false},
		{all(-5), three{-2, -1, -2}, all(-2), true},
		{all(least), three{least, least, least + 1}, all(least), true},
		{all(most), all(least), all(least), false},
		{all(least), all(most), all(most), false},
		{all(least), all(most), three{most, most, most - 1}, true},
	} {
		if got := limit.Against(x.was.expo(), x.now.expo(), x.l.expo()); got != x.want {
			t.Errorf("Against(%v, %v, %v) = %v", x.was, x.now, x.l, got)
		}
	}
}

// P9.1: a cap by name.
func TestAgainstCapByName(t *testing.T) {
	for _, x := range []struct {
		was, now, cap int64
		want          bool
	}{
		{0, 0, 0, false},
		{0, 1, 0, true},
		{3, 4, 4, false},
		{3, 5, 4, true},
		{4, 5, 4, true},
		{5, 5, 4, false},
		{6, 5, 4, false},
		{5, 6, 4, true},
		{5, 6, 6, false},
		{0, 0, -1, false},
		{0, 1, -1, true},
		{-3, -2, -2, false},
		{-3, -1, -2, true},
		{-1, -2, -9, false},
		{least, most, most, false},
		{least, most, most - 1, true},
		{most, least, least, false},
		{most - 1, most, least, true},
		{least, least + 1, least, true},
	} {
		if got := limit.AgainstCap(x.was, x.now, x.cap); got != x.want {
			t.Errorf("AgainstCap(%d, %d, %d) = %v", x.was, x.now, x.cap, got)
		}
	}
}

// P9.1, P9.3: at all edges, by each of the three for itself, beside what nothing stands against and what is stood
// against.
func TestEachPlaceAtAllEdges(t *testing.T) {
	for place := range 3 {
		for _, was := range edges() {
			for _, now := range edges() {
				for _, l := range edges() {
					holds(t, all(0).with(place, was), all(0).with(place, now), all(0).with(place, l))
					holds(t, all(9).with(place, was), all(8).with(place, now), all(5).with(place, l))
					holds(t, all(8).with(place, was), all(9).with(place, now), all(5).with(place, l))
					holds(t, three{1, 2, 3}.with(place, was), three{2, 1, 3}.with(place, now), three{2, 2, 2}.with(place, l))
				}
			}
		}
	}
}

// P9.1, P9.3: all small numbers at all three places at once.
func TestSmall(t *testing.T) {
	var l []three
	for i := range int64(27) {
		l = append(l, three{i%3 - 1, i/3%3 - 1, i/9 - 1})
	}
	for _, was := range l {
		for _, now := range l {
			for _, lim := range l {
				holds(t, was, now, lim)
			}
		}
	}
}

// P9.2: what is open in cells together; the other numbers of a cell don't count.
func TestWholeByName(t *testing.T) {
	for _, x := range []struct {
		l    []api.Cell
		want int64
		err  api.Errno
	}{
		{nil, 0, api.OK},
		{[]api.Cell{}, 0, api.OK},
		{[]api.Cell{{}}, 0, api.OK},
		{[]api.Cell{{Open: 30}}, 30, api.OK},
		{[]api.Cell{{Open: 1}, {Open: 20}, {Open: 300}}, 321, api.OK},
		{[]api.Cell{{Pos: 7, Buy: 8, Sell: 9, Open: 1}, {Pos: -5, Buy: 4, Sell: 3, Open: 2}}, 3, api.OK},
		{[]api.Cell{{Pos: most, Buy: most, Sell: most}, {Pos: most, Buy: most, Sell: most}}, 0, api.OK},
		{[]api.Cell{{Open: most}}, most, api.OK},
		{[]api.Cell{{Open: most}, {}, {Open: 0}}, most, api.OK},
		{[]api.Cell{{Open: most - 1}, {Open: 1}}, most, api.OK},
		{[]api.Cell{{Open: most}, {Open: 1}}, 0, api.ErrOver},
		{[]api.Cell{{Open: 1}, {Open: most}}, 0, api.ErrOver},
		{[]api.Cell{{Open: 1 << 62}, {Open: 1 << 62}}, 0, api.ErrOver},
		{[]api.Cell{{Open: most}, {Open: most}, {Open: most}}, 0, api.ErrOver},
		// Cells that aren't right are added all the same, in order: a sum in between is none, though the last would be.
		{[]api.Cell{{Open: -3}, {Open: 1}}, -2, api.OK},
		{[]api.Cell{{Open: least}}, least, api.OK},
		{[]api.Cell{{Open: least}, {Open: -1}}, 0, api.ErrOver},
		{[]api.Cell{{Open: most}, {Open: 1}, {Open: -1}}, 0, api.ErrOver},
		{[]api.Cell{{Open: most}, {Open: -1}, {Open: 1}}, most, api.OK},
		{[]api.Cell{{Open: -1}, {Open: most}, {Open: 1}}, most, api.OK},
		{[]api.Cell{{Open: least}, {Open: -1}, {Open: 1}}, 0, api.ErrOver},
		{[]api.Cell{{Open: least}, {Open: 1}, {Open: -1}}, least, api.OK},
	} {
		if got, err := limit.Whole(x.l); got != x.want || err != x.err {
			t.Errorf("Whole(%v) = %d, %d; want %d, %d", x.l, got, err, x.want, x.err)
		}
	}
}

// summed is what whole numbers without bounds say of what is open, sum by sum from 0.
func summed(opens ...int64) (int64, api.Errno) {
	sum := new(big.Int)
	for _, n := range opens {
		if sum.Add(sum, big.NewInt(n)); !sum.IsInt64() {
			return 0, api.ErrOver
		}
	}
	return sum.Int64(), api.OK
}

// P9.2: three cells at all edges come to what whole numbers without bounds say, sum by sum.
func TestWholeInOrder(t *testing.T) {
	for _, a := range edges() {
		for _, b := range edges() {
			for _, c := range edges() {
				want, wantErr := summed(a, b, c)
				got, err := limit.Whole([]api.Cell{{Pos: 5, Open: a}, {Buy: 6, Open: b}, {Sell: 7, Open: c}})
				if got != want || err != wantErr {
					t.Fatalf("Whole of %d, %d, %d = %d, %d; want %d, %d", a, b, c, got, err, want, wantErr)
				}
			}
		}
	}
}

// P9.2: of many cells, and Rule 3: what is handed in is not changed, its spare room neither.
func TestWholeLeavesItsList(t *testing.T) {
	room := make([]api.Cell, 5000)
	for i := range room {
		room[i] = api.Cell{Pos: int64(-i), Buy: int64(i), Sell: 3, Open: int64(i)}
	}
	was := slices.Clone(room)
	if got, err := limit.Whole(room[:4001]); got != 4000*4001/2 || err != api.OK {
		t.Errorf("Whole of many = %d, %d", got, err)
	}
	room[4000].Open, was[4000].Open = most, most
	if got, err := limit.Whole(room[:4001]); got != 0 || err != api.ErrOver {
		t.Errorf("Whole of too much = %d, %d", got, err)
	}
	if !slices.Equal(room, was) {
		t.Error("the list isn't as it was")
	}
}

// P9.3: by name; what is more elsewhere is no matter.
func TestLowersByName(t *testing.T) {
	x := three{5, 4, 100}
	for _, l := range []struct {
		now  three
		want bool
	}{
		{three{5, 4, 100}, false},
		{three{6, 4, 100}, false},
		{three{6, 5, 101}, false},
		{three{4, 4, 100}, true},
		{three{5, 3, 100}, true},
		{three{5, 4, 99}, true},
		{three{4, 9, 900}, true},
		{three{9, 3, 900}, true},
		{three{9, 9, 99}, true},
		{three{4, 3, 99}, true},
		{all(most), false},
		{all(least), true},
		{all(most).with(0, least), true},
		{all(most).with(1, least), true},
		{all(most).with(2, least), true},
	} {
		if got := limit.Lowers(x.expo(), l.now.expo()); got != l.want {
			t.Errorf("Lowers(%v, %v) = %v", x, l.now, got)
		}
	}
	if limit.Lowers(all(least).expo(), all(most).expo()) || !limit.Lowers(all(most).expo(), all(least).expo()) {
		t.Error("from the first number to the last one, or back")
	}
}

// P9.3: what lowers nothing is what covers what there was (layer 8).
func TestLowersOrCovers(t *testing.T) {
	for _, a := range edges() {
		for _, b := range edges() {
			for _, c := range edges() {
				was, now := api.Expo{Long: a, Short: b, Open: c}, api.Expo{Long: c, Short: a, Open: b}
				if limit.Lowers(was, now) == cell.Covers(now, was) {
					t.Fatalf("Lowers(%+v, %+v) = %v", was, now, limit.Lowers(was, now))
				}
			}
		}
	}
}

// within a limit?
func within(x, l three) bool { return x[0] <= l[0] && x[1] <= l[1] && x[2] <= l[2] }

// drawn are three numbers: most often small ones, else edges.
func drawn(draw *rand.Rand) three {
	var x three
	for i := range x {
		if x[i] = draw.Int63n(21) - 5; draw.Intn(4) == 0 {
			l := edges()
			x[i] = l[draw.Intn(len(l))]
		}
	}
	return x
}

// P9.4: what is within a limit stays so, if only that is done which the limit doesn't stand against; and what it stands
// against is just what would lead out of it.
func TestWithinStaysWithin(t *testing.T) {
	draw := rand.New(rand.NewSource(9))
	steps, against := 0, 0
	for range 20000 {
		l, x := drawn(draw), drawn(draw)
		for i := range x {
			x[i] = min(x[i], l[i])
		}
		for range 20 {
			now := drawn(draw)
			if limit.Against(x.expo(), now.expo(), l.expo()) != !within(now, l) {
				t.Fatalf("from %v to %v, the limit being %v", x, now, l)
			}
			if !within(now, l) {
				against++
				continue
			}
			x = now
			steps++
		}
	}
	if steps < 1000 || against < 1000 {
		t.Errorf("%d steps, and %d that were stood against", steps, against)
	}
}

// P9.4: of what isn't within a limit, no part goes further beyond, and a part that is within stays so.
func TestBeyondGoesNoFurther(t *testing.T) {
	draw := rand.New(rand.NewSource(10))
	steps := 0
	for range 20000 {
		l, x := drawn(draw), drawn(draw)
		for range 20 {
			now := drawn(draw)
			if limit.Against(x.expo(), now.expo(), l.expo()) {
				continue
			}
			for i := range x {
				if now[i] > max(x[i], l[i]) {
					t.Fatalf("from %v to %v, the limit being %v", x, now, l)
				}
			}
			x = now
			steps++
		}
	}
	if steps < 1000 {
		t.Errorf("%d steps", steps)
	}
}

// P9.4: what goes down, or stays, is never stood against, whatever the limit is; and a cap likewise.
func TestDownIsNeverStoodAgainst(t *testing.T) {
	draw := rand.New(rand.NewSource(11))
	for range 100000 {
		was, now, l := drawn(draw), drawn(draw), drawn(draw)
		for i := range now {
			now[i] = min(now[i], was[i])
			if limit.AgainstCap(was[i], now[i], l[i]) {
				t.Fatalf("from %d to %d, the cap being %d", was[i], now[i], l[i])
			}
		}
		if limit.Against(was.expo(), now.expo(), l.expo()) {
			t.Fatalf("from %v to %v, the limit being %v", was, now, l)
		}
	}
}

// P9.4: a sum within a cap stays so, as long as the cap stands against nothing that is done.
func TestSumStaysWithinItsCap(t *testing.T) {
	for _, cap := range edges() {
		for _, was := range edges() {
			for _, now := range edges() {
				if against := limit.AgainstCap(was, now, cap); was <= cap && against != (now > cap) {
					t.Fatalf("AgainstCap(%d, %d, %d) = %v", was, now, cap, against)
				}
			}
		}
	}
}
