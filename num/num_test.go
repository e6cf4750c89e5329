package num_test

import (
	"math"
	"math/big"
	"testing"

	"snaffle/api"
	"snaffle/num"
)

const (
	most  = math.MaxInt64
	least = math.MinInt64
)

// edges are numbers around each place where a sum, a difference or a product of two of them
// may cross the last number: the powers of two, and the greatest root, each with its neighbours.
func edges() []int64 {
	const root = 3037000499 // root*root is a number, (root+1)*(root+1) is none
	var l []int64
	for _, n := range []int64{0, root, most / 3, most / 7, 1000000007} {
		l = append(l, around(n)...)
		l = append(l, around(-n)...)
	}
	for i := range 63 {
		l = append(l, around(1<<i)...)
		l = append(l, around(-1<<i)...)
	}
	return append(l, most, most-1, most-2, least, least+1, least+2)
}

func around(n int64) []int64 { return []int64{n - 1, n, n + 1} }

// whole is what a whole number without bounds comes to among the numbers that there are.
func whole(n *big.Int) (int64, api.Errno) {
	if n.IsInt64() {
		return n.Int64(), api.OK
	}
	return 0, api.ErrOver
}

// holds f against what whole numbers without bounds say, at all pairs of edges.
func holds(t *testing.T, name string, f func(a, b int64) (int64, api.Errno), exact func(z, a, b *big.Int) *big.Int) {
	t.Helper()
	l := edges()
	for _, a := range l {
		for _, b := range l {
			want, wantErr := whole(exact(new(big.Int), big.NewInt(a), big.NewInt(b)))
			if got, err := f(a, b); got != want || err != wantErr {
				t.Fatalf("%s(%d, %d) = %d, %d; want %d, %d", name, a, b, got, err, want, wantErr)
			}
		}
	}
}

// P1.1: the sum, the difference and the product as whole numbers, or 0 and ErrOver.
func TestWholeNumbers(t *testing.T) {
	holds(t, "Add", num.Add, (*big.Int).Add)
	holds(t, "Sub", num.Sub, (*big.Int).Sub)
	holds(t, "Mul", num.Mul, (*big.Int).Mul)
}

type pair struct {
	a, b, want int64
	err        api.Errno
}

func checkPairs(t *testing.T, name string, f func(a, b int64) (int64, api.Errno), l []pair) {
	t.Helper()
	for _, x := range l {
		if got, err := f(x.a, x.b); got != x.want || err != x.err {
			t.Errorf("%s(%d, %d) = %d, %d; want %d, %d", name, x.a, x.b, got, err, x.want, x.err)
		}
	}
}

// P1.1: sums by name, the chapter's examples among them.
func TestAdd(t *testing.T) {
	checkPairs(t, "Add", num.Add, []pair{
		{2, 3, 5, api.OK},
		{2, -3, -1, api.OK},
		{0, 0, 0, api.OK},
		{1 << 62, 1 << 62, 0, api.ErrOver},
		{-1 << 62, -1 << 62, least, api.OK},
		{1 << 62, 1<<62 - 1, most, api.OK},
		{-1 << 62, -1<<62 - 1, 0, api.ErrOver},
		{most, 0, most, api.OK},
		{0, least, least, api.OK},
		{most, least, -1, api.OK},
		{least, most, -1, api.OK},
		{most, 1, 0, api.ErrOver},
		{1, most, 0, api.ErrOver},
		{least, -1, 0, api.ErrOver},
		{-1, least, 0, api.ErrOver},
		{most, most, 0, api.ErrOver},
		{least, least, 0, api.ErrOver},
	})
}

// P1.1: differences by name; the least number has no negative.
func TestSub(t *testing.T) {
	checkPairs(t, "Sub", num.Sub, []pair{
		{5, 3, 2, api.OK},
		{2, 5, -3, api.OK},
		{0, 0, 0, api.OK},
		{0, most, -most, api.OK},
		{-1, most, least, api.OK},
		{-2, most, 0, api.ErrOver},
		{0, least, 0, api.ErrOver},
		{-1, least, most, api.OK},
		{least, 0, least, api.OK},
		{least, least, 0, api.OK},
		{most, most, 0, api.OK},
		{least, 1, 0, api.ErrOver},
		{most, -1, 0, api.ErrOver},
		{most, least, 0, api.ErrOver},
		{least, most, 0, api.ErrOver},
	})
}

// P1.1: products by name, the chapter's example among them; the least number has no negative.
func TestMul(t *testing.T) {
	checkPairs(t, "Mul", num.Mul, []pair{
		{6, 7, 42, api.OK},
		{6, -7, -42, api.OK},
		{-6, -7, 42, api.OK},
		{0, least, 0, api.OK},
		{most, 0, 0, api.OK},
		{most, 1, most, api.OK},
		{1, least, least, api.OK},
		{least, 1, least, api.OK},
		{most, -1, -most, api.OK},
		{least, -1, 0, api.ErrOver},
		{-1, least, 0, api.ErrOver},
		{1 << 32, 1 << 31, 0, api.ErrOver},
		{-1 << 32, 1 << 31, least, api.OK},
		{1 << 32, -1 << 31, least, api.OK},
		{-1 << 32, -1 << 31, 0, api.ErrOver},
		{1 << 32, 1 << 32, 0, api.ErrOver},
		{3037000499, 3037000499, 9223372030926249001, api.OK},
		{3037000500, 3037000500, 0, api.ErrOver},
		{3037000500, -3037000500, 0, api.ErrOver},
		{most, most, 0, api.ErrOver},
		{least, least, 0, api.ErrOver},
		{least, most, 0, api.ErrOver},
	})
}

// P1.2: each number is added in order, and the first sum that is none ends it.
func TestTotal(t *testing.T) {
	for _, x := range []struct {
		l    []int64
		want int64
		err  api.Errno
	}{
		{nil, 0, api.OK},
		{[]int64{}, 0, api.OK},
		{[]int64{0}, 0, api.OK},
		{[]int64{7}, 7, api.OK},
		{[]int64{least}, least, api.OK},
		{[]int64{most}, most, api.OK},
		{[]int64{1, 2, 3, -10}, -4, api.OK},
		{[]int64{5, 5, 5, 5}, 20, api.OK},
		{[]int64{most, -1, 1}, most, api.OK},
		{[]int64{least, 1, -1}, least, api.OK},
		{[]int64{most, least, 1, most}, most, api.OK},
		{[]int64{1 << 62, -1 << 62, 1 << 62}, 1 << 62, api.OK},
		// A sum in between is none, though the last one would be.
		{[]int64{most, 1, -1}, 0, api.ErrOver},
		{[]int64{least, -1, 1}, 0, api.ErrOver},
		{[]int64{1 << 62, 1 << 62, -1 << 62}, 0, api.ErrOver},
		{[]int64{most, most, least, least, 9}, 0, api.ErrOver},
		{[]int64{1, most, -5}, 0, api.ErrOver},
		// The last sum is none.
		{[]int64{most, 0, 0, 1}, 0, api.ErrOver},
		{[]int64{least, 0, -1}, 0, api.ErrOver},
		{[]int64{-1, -1, least}, 0, api.ErrOver},
	} {
		if got, err := num.Total(x.l...); got != x.want || err != x.err {
			t.Errorf("Total(%v) = %d, %d; want %d, %d", x.l, got, err, x.want, x.err)
		}
	}
}

// P1.2: how many numbers are added is free.
func TestTotalIsVariadic(t *testing.T) {
	if got, err := num.Total(); got != 0 || err != api.OK {
		t.Errorf("Total() = %d, %d; want 0, 0", got, err)
	}
	if got, err := num.Total(1, 2, 3); got != 6 || err != api.OK {
		t.Errorf("Total(1, 2, 3) = %d, %d; want 6, 0", got, err)
	}
	if got, err := num.Total(make([]int64, 10000)...); got != 0 || err != api.OK {
		t.Errorf("Total of many = %d, %d; want 0, 0", got, err)
	}
}

// P1.2: three numbers come to what whole numbers without bounds say, sum by sum.
func TestTotalInOrder(t *testing.T) {
	l := []int64{0, 1, -1, 2, -2, 1 << 62, -1 << 62, most, most - 1, least, least + 1}
	for _, a := range l {
		for _, b := range l {
			for _, c := range l {
				want, wantErr := inOrder(a, b, c)
				if got, err := num.Total(a, b, c); got != want || err != wantErr {
					t.Fatalf("Total(%d, %d, %d) = %d, %d; want %d, %d", a, b, c, got, err, want, wantErr)
				}
			}
		}
	}
}

func inOrder(l ...int64) (int64, api.Errno) {
	sum := new(big.Int)
	for _, n := range l {
		if sum.Add(sum, big.NewInt(n)); !sum.IsInt64() {
			return 0, api.ErrOver
		}
	}
	return whole(sum)
}

// Rule 3 of the document: what is handed in is not changed, its spare room neither.
func TestTotalLeavesItsList(t *testing.T) {
	room := []int64{1, most, 3, 4}
	if _, err := num.Total(room[:2]...); err != api.ErrOver {
		t.Errorf("err = %d; want %d", err, api.ErrOver)
	}
	if room[0] != 1 || room[1] != most || room[2] != 3 || room[3] != 4 {
		t.Errorf("the list became %v", room)
	}
}

// P1.2: the greater of two.
func TestMax(t *testing.T) {
	for _, x := range []struct{ a, b, want int64 }{
		{3, 4, 4},
		{4, 3, 4},
		{3, -4, 3},
		{-3, -4, -3},
		{5, 5, 5},
		{0, -1, 0},
		{least, most, most},
		{most, least, most},
		{least, least, least},
		{least + 1, least, least + 1},
		{most - 1, most, most},
	} {
		if got := num.Max(x.a, x.b); got != x.want {
			t.Errorf("Max(%d, %d) = %d; want %d", x.a, x.b, got, x.want)
		}
	}
	for _, a := range edges() {
		for _, b := range edges() {
			if got := num.Max(a, b); got < a || got < b || got != a && got != b {
				t.Fatalf("Max(%d, %d) = %d", a, b, got)
			}
		}
	}
}

// P1.3: a sum less what was added is what there was.
func TestSumLessWhatWasAdded(t *testing.T) {
	sums, l := 0, edges()
	for _, a := range l {
		for _, b := range l {
			sum, err := num.Add(a, b)
			if err != api.OK {
				continue
			}
			sums++
			if was, err := num.Sub(sum, b); was != a || err != api.OK {
				t.Fatalf("Sub(Add(%d, %d), %d) = %d, %d; want %d, 0", a, b, b, was, err, a)
			}
			if was, err := num.Sub(sum, a); was != b || err != api.OK {
				t.Fatalf("Sub(Add(%d, %d), %d) = %d, %d; want %d, 0", a, b, a, was, err, b)
			}
		}
	}
	if sums == 0 {
		t.Error("no pair has a sum")
	}
}
