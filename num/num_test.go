package num

import (
	"math"
	"math/big"
	"slices"
	"testing"
)

const (
	least = math.MinInt64
	most  = math.MaxInt64
)

// samples: small numbers, and those around the powers of 2 at which halves and
// products of numbers leave their range.
func samples() []int64 {
	var l []int64
	for n := int64(-12); n <= 12; n++ {
		l = append(l, n)
	}
	for _, shift := range []int{16, 31, 32, 33, 62} {
		p := int64(1) << shift
		l = append(l, p-1, p, p+1, -p-1, -p, -p+1)
	}
	return append(l, least, least+1, least+2, most-2, most-1, most, 3037000499, 3037000500, -3037000500, 6*35*143, most/3, least/3)
}

// pairs hands every pair of samples on, as numbers and as big ones.
func pairs(f func(a, b int64, x, y *big.Int)) {
	l := samples()
	for _, a := range l {
		for _, b := range l {
			f(a, b, big.NewInt(a), big.NewInt(b))
		}
	}
}

// hold tests one answer against the true number, or nil, if there is none.
func hold(t *testing.T, name string, args []int64, n int64, ok bool, want *big.Int) {
	t.Helper()
	if want == nil || !want.IsInt64() {
		if ok || n != 0 {
			t.Errorf("%s%v is %d, %v; want it refused with 0", name, args, n, ok)
		}
		return
	}
	if !ok || n != want.Int64() {
		t.Errorf("%s%v is %d, %v; want %v", name, args, n, ok, want)
	}
}

func bigFloor(x, d *big.Int) *big.Int {
	if d.Sign() == 0 {
		return nil
	}
	q, r := new(big.Int).QuoRem(x, d, new(big.Int))
	if r.Sign() != 0 && r.Sign() != d.Sign() {
		q.Sub(q, big.NewInt(1))
	}
	return q
}

func bigCeil(x, d *big.Int) *big.Int {
	q := bigFloor(new(big.Int).Neg(x), d)
	if q == nil {
		return nil
	}
	return q.Neg(q)
}

func bigSum(l []int64) *big.Int {
	s := new(big.Int)
	for _, n := range l {
		s.Add(s, big.NewInt(n))
	}
	return s
}

type told struct {
	a, b, want int64
	ok         bool
}

func holdTold(t *testing.T, name string, f func(a, b int64) (int64, bool), l []told) {
	t.Helper()
	for _, x := range l {
		if n, ok := f(x.a, x.b); n != x.want || ok != x.ok {
			t.Errorf("%s(%d, %d) is %d, %v; want %d, %v", name, x.a, x.b, n, ok, x.want, x.ok)
		}
	}
}

// P1.1

func TestAdd(t *testing.T) {
	holdTold(t, "Add", Add, []told{
		{2, 3, 5, true}, {-2, -3, -5, true}, {0, 0, 0, true}, {least, most, -1, true},
		{most, 0, most, true}, {most, 1, 0, false}, {most, most, 0, false},
		{least, 0, least, true}, {least, -1, 0, false}, {least, least, 0, false},
		{most - 1, 1, most, true}, {least + 1, -1, least, true},
	})
	pairs(func(a, b int64, x, y *big.Int) {
		n, ok := Add(a, b)
		hold(t, "Add", []int64{a, b}, n, ok, new(big.Int).Add(x, y))
	})
}

func TestSub(t *testing.T) {
	holdTold(t, "Sub", Sub, []told{
		{2, 3, -1, true}, {-2, -3, 1, true}, {least, least, 0, true}, {-1, least, most, true},
		{0, least, 0, false}, {least, 1, 0, false}, {most, -1, 0, false},
		{0, most, -most, true}, {-1, most, least, true}, {-2, most, 0, false},
	})
	pairs(func(a, b int64, x, y *big.Int) {
		n, ok := Sub(a, b)
		hold(t, "Sub", []int64{a, b}, n, ok, new(big.Int).Sub(x, y))
	})
}

func TestMul(t *testing.T) {
	holdTold(t, "Mul", Mul, []told{
		{6, 7, 42, true}, {-6, 7, -42, true}, {-6, -7, 42, true}, {0, least, 0, true},
		{4294967296, 2147483648, 0, false}, {-4294967296, 2147483648, least, true},
		{-4294967296, -2147483648, 0, false}, {4294967296, 4294967296, 0, false},
		{least, 1, least, true}, {least, -1, 0, false}, {-1, least, 0, false},
		{most, -1, -most, true}, {least, least, 0, false}, {most, most, 0, false},
		{3037000499, 3037000499, 9223372030926249001, true}, {3037000500, 3037000500, 0, false},
	})
	pairs(func(a, b int64, x, y *big.Int) {
		n, ok := Mul(a, b)
		hold(t, "Mul", []int64{a, b}, n, ok, new(big.Int).Mul(x, y))
	})
}

func TestNeg(t *testing.T) {
	if n, ok := Neg(least); n != 0 || ok {
		t.Errorf("Neg(-2^63) is %d, %v; want it refused with 0", n, ok)
	}
	if n, ok := Neg(most); n != -most || !ok {
		t.Errorf("Neg(2^63 - 1) is %d, %v", n, ok)
	}
	for _, a := range samples() {
		n, ok := Neg(a)
		hold(t, "Neg", []int64{a}, n, ok, new(big.Int).Neg(big.NewInt(a)))
	}
}

// lists: of many lengths, among them such whose parts leave the range and whose
// whole doesn't, and such whose whole is just inside and just outside.
func lists() [][]int64 {
	l := [][]int64{
		nil, {}, {0}, {7}, {1, 2, 3}, {-1, -2, -3}, {least}, {most},
		{most, 1}, {most, 1, -1}, {1, most, -1}, {least, -1}, {least, -1, 1}, {-1, least, 1},
		{most, most, -most, -most, 3}, {least, least, most, most, 2}, {most, most, least, least, 2},
		{least, least, most, most, 1}, {least, most}, {least, least}, {least, least, -1}, {most, most},
		{most, most, 1}, {most, most, 2}, {most, most, most, most}, {most, most, most, most, 4},
		{least, least, least, least}, {least, least, least, least, -1}, {most, most, least}, {least, least, most, 1},
	}
	for _, n := range []int64{most, least, -1, 1} {
		l = append(l, slices.Repeat([]int64{n}, 1000))
	}
	up, down := slices.Repeat([]int64{most}, 500), slices.Repeat([]int64{-most}, 500)
	return append(l, slices.Concat(up, down), slices.Concat(down, up, []int64{-9}), slices.Concat(up, []int64{5}, down))
}

func TestSum(t *testing.T) {
	if n, ok := Sum(); n != 0 || !ok {
		t.Errorf("Sum() is %d, %v; want 0", n, ok)
	}
	if n, ok := Sum(most, most, -most, -most, 3); n != 3 || !ok {
		t.Errorf("a sum whose parts leave the range is %d, %v; want 3", n, ok)
	}
	for _, l := range lists() {
		n, ok := Sum(l...)
		hold(t, "Sum", l, n, ok, bigSum(l))
	}
}

func TestSumHangsNotOnOrder(t *testing.T) {
	l := []int64{most, 1, most, -most, least, 2, -5, most, least}
	want, wantOK := Sum(l...)
	for range l {
		l = append(l[1:], l[0])
		if n, ok := Sum(l...); n != want || ok != wantOK {
			t.Errorf("Sum%v is %d, %v; in another order %d, %v", l, n, ok, want, wantOK)
		}
	}
}

// Rule 4: what is handed in is not changed, and nothing behind its length read.
func TestSumsLeaveTheirLists(t *testing.T) {
	all := []int64{most, -3, most, least, 77, 78}
	kept := slices.Clone(all)
	if n, ok := Sum(all[1:2]...); n != -3 || !ok {
		t.Errorf("Sum of a part is %d, %v; want -3", n, ok)
	}
	if n, ok := FloorSum(2, all[1:2]...); n != -2 || !ok {
		t.Errorf("FloorSum of a part is %d, %v; want -2", n, ok)
	}
	Sum(all...)
	FloorSum(5, all...)
	if !slices.Equal(all, kept) {
		t.Errorf("the list that was handed in is now %v", all)
	}
}

// Ways: any number of numbers is summed in one call.
func TestSumsAreVariadic(t *testing.T) {
	var _ func(...int64) (int64, bool) = Sum
	var _ func(int64, ...int64) (int64, bool) = FloorSum
	var l []int64
	for count := int64(0); count <= 300; count++ {
		if n, ok := Sum(l...); n != count*(count+1)/2 || !ok {
			t.Errorf("Sum of 1 to %d is %d, %v", count, n, ok)
		}
		l = append(l, count+1)
	}
	if n, ok := Sum(4); n != 4 || !ok {
		t.Errorf("Sum(4) is %d, %v", n, ok)
	}
	if n, ok := Sum(4, 5, 6, 7); n != 22 || !ok {
		t.Errorf("Sum(4, 5, 6, 7) is %d, %v", n, ok)
	}
}

// P1.2

func TestFloor(t *testing.T) {
	holdTold(t, "Floor", Floor, []told{
		{7, 2, 3, true}, {-7, 2, -4, true}, {7, -2, -4, true}, {-7, -2, 3, true},
		{8, 2, 4, true}, {-8, 2, -4, true}, {8, -2, -4, true}, {-8, -2, 4, true},
		{0, 5, 0, true}, {0, -5, 0, true}, {1, 0, 0, false}, {0, 0, 0, false}, {least, 0, 0, false},
		{least, -1, 0, false}, {least, 1, least, true}, {most, -1, -most, true}, {least, least, 1, true},
		{1, most, 0, true}, {-1, most, -1, true}, {1, least, -1, true}, {-1, least, 0, true},
		{least, most, -2, true}, {most, least, -1, true},
	})
	pairs(func(a, b int64, x, y *big.Int) {
		n, ok := Floor(a, b)
		hold(t, "Floor", []int64{a, b}, n, ok, bigFloor(x, y))
	})
}

func TestCeil(t *testing.T) {
	holdTold(t, "Ceil", Ceil, []told{
		{7, 2, 4, true}, {-7, 2, -3, true}, {7, -2, -3, true}, {-7, -2, 4, true},
		{8, 2, 4, true}, {-8, 2, -4, true}, {8, -2, -4, true}, {-8, -2, 4, true},
		{0, 5, 0, true}, {0, -5, 0, true}, {1, 0, 0, false}, {0, 0, 0, false}, {most, 0, 0, false},
		{least, -1, 0, false}, {least, 1, least, true}, {most, -1, -most, true}, {least, least, 1, true},
		{1, most, 1, true}, {-1, most, 0, true}, {1, least, 0, true}, {-1, least, 1, true},
		{least, most, -1, true}, {most, least, 0, true},
	})
	pairs(func(a, b int64, x, y *big.Int) {
		n, ok := Ceil(a, b)
		hold(t, "Ceil", []int64{a, b}, n, ok, bigCeil(x, y))
	})
}

func TestFloorSum(t *testing.T) {
	for _, x := range []struct {
		d    int64
		l    []int64
		want int64
		ok   bool
	}{
		{2, []int64{-3, -4}, -4, true}, {2, []int64{3, 4}, 3, true}, {3, nil, 0, true},
		{0, nil, 0, false}, {-1, nil, 0, false}, {0, []int64{6}, 0, false}, {-2, []int64{6}, 0, false}, {least, []int64{6}, 0, false},
		{4, []int64{most, most, most, most}, most, true}, {4, []int64{most, most, most, most, 3}, most, true},
		{4, []int64{most, most, most, most, 4}, 0, false}, {2, []int64{most, most, most, most}, 0, false},
		{2, []int64{least, least}, least, true}, {2, []int64{least, least, 1}, least, true}, {2, []int64{least, least, -1}, 0, false},
		{1, []int64{most, most}, 0, false}, {1, []int64{least, least}, 0, false}, {1, []int64{least, most}, -1, true},
		{most, []int64{-1}, -1, true}, {most, []int64{most, most, -1}, 1, true},
	} {
		if n, ok := FloorSum(x.d, x.l...); n != x.want || ok != x.ok {
			t.Errorf("FloorSum(%d, %v) is %d, %v; want %d, %v", x.d, x.l, n, ok, x.want, x.ok)
		}
	}
}

func TestFloorSumOfAll(t *testing.T) {
	for _, l := range lists() {
		for _, d := range append(samples(), 500, 999, 1000, 1001) {
			var want *big.Int
			if d > 0 {
				want = bigFloor(bigSum(l), big.NewInt(d))
			}
			n, ok := FloorSum(d, l...)
			hold(t, "FloorSum", append([]int64{d}, l...), n, ok, want)
		}
	}
	pairs(func(a, b int64, x, y *big.Int) {
		for _, d := range []int64{1, 2, 3, 1 << 32, most} {
			n, ok := FloorSum(d, a, b)
			hold(t, "FloorSum", []int64{d, a, b}, n, ok, bigFloor(new(big.Int).Add(x, y), big.NewInt(d)))
		}
	})
}

// P1.3

func TestGcd(t *testing.T) {
	holdTold(t, "Gcd", Gcd, []told{
		{12, 18, 6, true}, {12, -18, 6, true}, {-12, 18, 6, true}, {-12, -18, 6, true},
		{0, 0, 0, true}, {0, 5, 5, true}, {-5, 0, 5, true}, {1, least, 1, true}, {17, 31, 1, true},
		{0, least, 0, false}, {least, 0, 0, false}, {least, least, 0, false},
		{least, 6, 2, true}, {-1 << 62, least, 1 << 62, true}, {most, most, most, true}, {-most, 0, most, true}, {least, most, 1, true},
	})
	pairs(func(a, b int64, x, y *big.Int) {
		n, ok := Gcd(a, b)
		hold(t, "Gcd", []int64{a, b}, n, ok, new(big.Int).GCD(nil, nil, new(big.Int).Abs(x), new(big.Int).Abs(y)))
	})
}

// P1.4

func TestCross(t *testing.T) {
	for _, x := range []struct {
		a, b, c, d int64
		want       int
	}{
		{1, 2, 1, 3, 1}, {1, 3, 1, 2, -1}, {2, 4, 1, 2, 0}, {-1, 2, 1, 2, -1}, {-1, 2, -1, 3, -1},
		{1, -2, 1, 3, 1}, {0, 5, 0, 7, 0}, {0, 0, 0, 0, 0}, {1, 0, 0, 0, 0},
		{least, 1, least, 1, 0}, {least, least, least, least, 0}, {least, most, most, least, 1},
		{least, least, most, most, 0}, {most, least, least, most, -1}, {most, 1, most, 2, 1}, {least, 1, most, 1, -1},
		{most, most - 1, most - 1, most - 2, -1}, {1 << 32, 1 << 32, 1 << 32, 1 << 32, 0}, {1 << 32, 0, 0, 1 << 32, 1},
	} {
		if got := Cross(x.a, x.b, x.c, x.d); got != x.want {
			t.Errorf("Cross(%d, %d, %d, %d) is %d; want %d", x.a, x.b, x.c, x.d, got, x.want)
		}
	}
}

func TestCrossOfAll(t *testing.T) {
	pairs(func(a, d int64, x, y *big.Int) {
		left := new(big.Int).Mul(x, y)
		for _, c := range []int64{least, least + 1, -1 << 32, -2, 0, 1, 3, 1 << 32, most - 1, most, a} {
			for _, b := range []int64{least, -3, -1, 0, 1, 1 << 31, most, d, -d, d ^ 1} {
				want := left.Cmp(new(big.Int).Mul(big.NewInt(c), big.NewInt(b)))
				if got := Cross(a, b, c, d); got != want {
					t.Errorf("Cross(%d, %d, %d, %d) is %d; want %d", a, b, c, d, got, want)
				}
			}
		}
	})
}
