package ratio

import (
	"math"
	"math/big"
	"strconv"
	"strings"
	"testing"

	"secateur/api"
)

const (
	most  = math.MaxInt64
	least = math.MinInt64
)

// edges are whole numbers about which something may go wrong: small ones, those
// whose products are about 2^63, and the ends of the range.
var edges = []int64{
	least, least + 1, least + 2, -1 << 62, -3037000500, -1 << 32, -7, -6, -4, -3, -2, -1,
	0, 1, 2, 3, 4, 6, 7, 1 << 32, 3037000499, 3037000500, 1 << 62, 1<<62 + 1, most - 2, most - 1, most,
}

// good are all good ratios of edges.
func good() []Ratio {
	var l []Ratio
	for _, n := range edges {
		for _, d := range edges {
			if isGood(n, d) {
				l = append(l, Ratio{n, d})
			}
		}
	}
	return l
}

func isGood(n, d int64) bool {
	if d <= 0 {
		return false
	}
	return new(big.Int).GCD(nil, nil, new(big.Int).Abs(big.NewInt(n)), big.NewInt(d)).Cmp(big.NewInt(1)) == 0
}

// bad are ratios that aren't good.
var bad = []Ratio{
	{}, {1, 0}, {-1, 0}, {least, 0}, {most, 0}, {0, 2}, {0, most}, {0, -1}, {2, 4}, {-2, 4}, {1, -1}, {-3, -2},
	{3, -2}, {least, 2}, {least, 1 << 62}, {least, least}, {1, least}, {most, most}, {6, 3}, {least, -1}, {most, least},
}

func rat(r Ratio) *big.Rat {
	return big.NewRat(r.Num, r.Den)
}

// told is the ratio of a quotient, where both its numbers have a place.
func told(q *big.Rat) (Ratio, bool) {
	if !q.Num().IsInt64() || !q.Denom().IsInt64() {
		return Ratio{}, false
	}
	return Ratio{q.Num().Int64(), q.Denom().Int64()}, true
}

func TestMakeTable(t *testing.T) {
	for _, x := range []struct {
		num, den int64
		want     Ratio
		ok       bool
	}{
		{6, -4, Ratio{-3, 2}, true},
		{6, 4, Ratio{3, 2}, true},
		{-6, -4, Ratio{3, 2}, true},
		{-6, 4, Ratio{-3, 2}, true},
		{0, 5, Ratio{0, 1}, true},
		{0, -5, Ratio{0, 1}, true},
		{0, 0, Ratio{}, false},
		{1, 0, Ratio{}, false},
		{least, 0, Ratio{}, false},
		{most, 0, Ratio{}, false},
		{least, 1, Ratio{least, 1}, true},
		{least, -1, Ratio{}, false},
		{least, -3, Ratio{}, false},
		{least, -2, Ratio{1 << 62, 1}, true},
		{least, least, Ratio{1, 1}, true},
		{0, least, Ratio{0, 1}, true},
		{1, least, Ratio{}, false},
		{most, least, Ratio{}, false},
		{6, least, Ratio{-3, 1 << 62}, true},
		{least, most, Ratio{least, most}, true},
		{least, -most, Ratio{}, false},
		{most, -1, Ratio{-most, 1}, true},
		{1, -most, Ratio{-1, most}, true},
		{-most, -most, Ratio{1, 1}, true},
	} {
		r, ok := Make(x.num, x.den)
		if r != x.want || ok != x.ok {
			t.Errorf("P2.1: Make(%d, %d) = %v, %v", x.num, x.den, r, ok)
		}
	}
}

func TestMakeOfEdges(t *testing.T) {
	for _, n := range edges {
		for _, d := range edges {
			want, wantOk := Ratio{}, false
			if d != 0 {
				want, wantOk = told(big.NewRat(n, d))
			}
			r, ok := Make(n, d)
			if r != want || ok != wantOk {
				t.Errorf("P2.1: Make(%d, %d) = %v, %v, want %v, %v", n, d, r, ok, want, wantOk)
			}
			if ok && !r.Good() {
				t.Errorf("P2.1: Make(%d, %d) isn't good", n, d)
			}
		}
	}
}

func TestOf(t *testing.T) {
	for _, n := range edges {
		if r := Of(n); r != (Ratio{n, 1}) || !r.Good() {
			t.Errorf("P2.1: Of(%d) = %v", n, r)
		}
	}
}

func TestGood(t *testing.T) {
	for _, n := range edges {
		for _, d := range edges {
			if got := (Ratio{n, d}).Good(); got != isGood(n, d) {
				t.Errorf("P2.1: %d/%d: %v", n, d, got)
			}
		}
	}
	for _, r := range bad {
		if r.Good() {
			t.Errorf("P2.1: %v is good", r)
		}
	}
}

func TestCmp(t *testing.T) {
	l := good()
	for _, a := range l {
		for _, b := range l {
			if got := Cmp(a, b); got != rat(a).Cmp(rat(b)) {
				t.Errorf("P2.2: Cmp(%v, %v) = %d", a, b, got)
			}
		}
	}
	for _, r := range bad {
		for _, n := range edges {
			if Cmp(r, Of(n)) != 0 || Cmp(Of(n), r) != 0 {
				t.Errorf("P2.2: Cmp of %v and %d", r, n)
			}
		}
	}
}

func TestFloorAndCeil(t *testing.T) {
	for _, x := range []struct {
		r           Ratio
		floor, ceil int64
	}{
		{Ratio{-3, 2}, -2, -1},
		{Ratio{3, 2}, 1, 2},
		{Ratio{-1, most}, -1, 0},
		{Ratio{1, most}, 0, 1},
		{Ratio{0, 1}, 0, 0},
		{Ratio{least, 1}, least, least},
		{Ratio{most, 1}, most, most},
		{Ratio{least, most}, -2, -1},
		{Ratio{most, 2}, 1<<62 - 1, 1 << 62},
	} {
		if x.r.Floor() != x.floor || x.r.Ceil() != x.ceil {
			t.Errorf("P2.2: %v: %d, %d", x.r, x.r.Floor(), x.r.Ceil())
		}
	}
	for _, r := range good() {
		floor := new(big.Int).Div(big.NewInt(r.Num), big.NewInt(r.Den)).Int64()
		ceil := -new(big.Int).Div(new(big.Int).Neg(big.NewInt(r.Num)), big.NewInt(r.Den)).Int64()
		if r.Floor() != floor || r.Ceil() != ceil {
			t.Errorf("P2.2: %v: %d, %d", r, r.Floor(), r.Ceil())
		}
	}
	for _, r := range bad {
		if r.Floor() != 0 || r.Ceil() != 0 {
			t.Errorf("P2.2: %v: %d, %d", r, r.Floor(), r.Ceil())
		}
	}
}

// hasPlace tells whether all are numbers of 64 bits.
func hasPlace(l ...*big.Int) bool {
	for _, n := range l {
		if !n.IsInt64() {
			return false
		}
	}
	return true
}

// sum is the sum, if all that P2.3 names has a place.
func sum(a, b Ratio) (Ratio, bool) {
	aNum, aDen, bNum, bDen := big.NewInt(a.Num), big.NewInt(a.Den), big.NewInt(b.Num), big.NewInt(b.Den)
	d := new(big.Int).GCD(nil, nil, aDen, bDen)
	x := new(big.Int).Mul(aNum, new(big.Int).Quo(bDen, d))
	y := new(big.Int).Mul(bNum, new(big.Int).Quo(aDen, d))
	den := new(big.Int).Mul(aDen, new(big.Int).Quo(bDen, d))
	if !hasPlace(x, y, new(big.Int).Add(x, y), den) {
		return Ratio{}, false
	}
	return told(new(big.Rat).Add(rat(a), rat(b)))
}

// product is the product: what is left, divided by the common divisors, is its
// own Num and Den.
func product(a, b Ratio) (Ratio, bool) {
	return told(new(big.Rat).Mul(rat(a), rat(b)))
}

func TestAddAndMul(t *testing.T) {
	l := good()
	for _, a := range l {
		for _, b := range l {
			if got, ok := Add(a, b); !agrees(got, ok)(sum(a, b)) {
				t.Errorf("P2.3: Add(%v, %v) = %v, %v", a, b, got, ok)
			}
			if got, ok := Mul(a, b); !agrees(got, ok)(product(a, b)) {
				t.Errorf("P2.3: Mul(%v, %v) = %v, %v", a, b, got, ok)
			}
		}
	}
}

func agrees(got Ratio, ok bool) func(Ratio, bool) bool {
	return func(want Ratio, wantOk bool) bool { return got == want && ok == wantOk }
}

func TestSubAndQuo(t *testing.T) {
	l := good()
	for _, a := range l {
		for _, b := range l {
			want, wantOk := Ratio{}, false
			if b.Num != least {
				want, wantOk = sum(a, Ratio{-b.Num, b.Den})
			}
			if got, ok := Sub(a, b); got != want || ok != wantOk {
				t.Errorf("P2.3: Sub(%v, %v) = %v, %v", a, b, got, ok)
			}
			want, wantOk = Ratio{}, false
			if b.Num != least && b.Num != 0 {
				over, _ := told(new(big.Rat).Inv(rat(b)))
				want, wantOk = product(a, over)
			}
			if got, ok := Quo(a, b); got != want || ok != wantOk {
				t.Errorf("P2.3: Quo(%v, %v) = %v, %v", a, b, got, ok)
			}
		}
	}
}

func TestReckonTable(t *testing.T) {
	for i, x := range []struct {
		op         func(a, b Ratio) (Ratio, bool)
		a, b, want Ratio
		ok         bool
	}{
		{Add, Ratio{1, 6}, Ratio{1, 3}, Ratio{1, 2}, true},
		{Add, Ratio{1, 2}, Ratio{-1, 2}, Ratio{0, 1}, true},
		{Add, Ratio{most, 1}, Ratio{1, 1}, Ratio{}, false},
		{Add, Ratio{least, 1}, Ratio{-1, 1}, Ratio{}, false},
		{Add, Ratio{least, 1}, Ratio{most, 1}, Ratio{-1, 1}, true},
		{Add, Ratio{1, most}, Ratio{1, most}, Ratio{2, most}, true},
		{Add, Ratio{1, most}, Ratio{1, most - 1}, Ratio{}, false},
		// The sum would have a place, but what is reckoned on the way has none:
		// both Nums times the other one's Den, their sum, both Dens.
		{Add, Ratio{most, 2}, Ratio{-most, 3}, Ratio{}, false},
		{Add, Ratio{most, 1}, Ratio{-1, 2}, Ratio{}, false},
		{Add, Ratio{1, 2}, Ratio{most, 1}, Ratio{}, false},
		{Add, Ratio{most, 2}, Ratio{1, 2}, Ratio{}, false},
		{Add, Ratio{5, 3 << 61}, Ratio{1, 1 << 61}, Ratio{1, 3 << 58}, true},
		{Add, Ratio{1, 3 << 61}, Ratio{1, 5 << 60}, Ratio{}, false},
		{Mul, Ratio{2, 3}, Ratio{3, 4}, Ratio{1, 2}, true},
		{Mul, Ratio{most, 1}, Ratio{1, most}, Ratio{1, 1}, true},
		{Mul, Ratio{least, 1}, Ratio{1, 2}, Ratio{-1 << 62, 1}, true},
		{Mul, Ratio{least, 1}, Ratio{-1, 1}, Ratio{}, false},
		{Mul, Ratio{0, 1}, Ratio{least, most}, Ratio{0, 1}, true},
		{Mul, Ratio{1, most}, Ratio{1, 2}, Ratio{}, false},
		{Mul, Ratio{most, 2}, Ratio{3, 1}, Ratio{}, false},
		{Sub, Ratio{1, 2}, Ratio{1, 3}, Ratio{1, 6}, true},
		{Sub, Ratio{1, 3}, Ratio{1, 3}, Ratio{0, 1}, true},
		{Sub, Ratio{least, 1}, Ratio{least, 1}, Ratio{}, false},
		{Sub, Ratio{0, 1}, Ratio{least, 3}, Ratio{}, false},
		{Sub, Ratio{least, 1}, Ratio{0, 1}, Ratio{least, 1}, true},
		{Sub, Ratio{least, 1}, Ratio{1, 1}, Ratio{}, false},
		{Sub, Ratio{-1, 1}, Ratio{most, 1}, Ratio{least, 1}, true},
		{Quo, Ratio{1, 2}, Ratio{-3, 4}, Ratio{-2, 3}, true},
		{Quo, Ratio{1, 2}, Ratio{0, 1}, Ratio{}, false},
		{Quo, Ratio{0, 1}, Ratio{0, 1}, Ratio{}, false},
		{Quo, Ratio{0, 1}, Ratio{5, 3}, Ratio{0, 1}, true},
		{Quo, Ratio{least, 1}, Ratio{least, 1}, Ratio{}, false},
		{Quo, Ratio{least, 1}, Ratio{-1, 1}, Ratio{}, false},
		{Quo, Ratio{least, 1}, Ratio{-2, 1}, Ratio{1 << 62, 1}, true},
		{Quo, Ratio{most, 1}, Ratio{1, 2}, Ratio{}, false},
	} {
		if got, ok := x.op(x.a, x.b); got != x.want || ok != x.ok {
			t.Errorf("P2.3: %d: of %v and %v: %v, %v", i, x.a, x.b, got, ok)
		}
	}
}

func TestReckonOfBad(t *testing.T) {
	for _, op := range []func(a, b Ratio) (Ratio, bool){Add, Mul, Sub, Quo, Simplest} {
		for i, r := range bad {
			for _, x := range []Ratio{{-2, 1}, {0, 1}, {1, 1}, {7, 3}, {least, 1}, {most, 2}} {
				if got, ok := op(r, x); ok || got != (Ratio{}) {
					t.Errorf("P2.3, P2.5: %d: %v, %v", i, r, x)
				}
				if got, ok := op(x, r); ok || got != (Ratio{}) {
					t.Errorf("P2.3, P2.5: %d: %v, %v", i, x, r)
				}
			}
			if got, ok := op(r, r); ok || got != (Ratio{}) {
				t.Errorf("P2.3, P2.5: %d: %v twice", i, r)
			}
		}
	}
}

// nearest goes through all Dens from 1 on, and through all Nums from 0 away.
func nearest(a, b Ratio) (Ratio, bool) {
	if rat(a).Cmp(rat(b)) > 0 {
		return Ratio{}, false
	}
	for d := int64(1); ; d++ {
		for n := int64(0); n <= 20*d; n++ {
			for _, x := range []int64{n, -n} {
				q := big.NewRat(x, d)
				if q.Cmp(rat(a)) >= 0 && q.Cmp(rat(b)) <= 0 {
					return told(q)
				}
			}
		}
	}
}

func TestSimplestOfSmall(t *testing.T) {
	var l []Ratio
	for d := int64(1); d <= 8; d++ {
		for n := int64(-17); n <= 17; n++ {
			if isGood(n, d) {
				l = append(l, Ratio{n, d})
			}
		}
	}
	for _, a := range l {
		for _, b := range l {
			if got, ok := Simplest(a, b); !agrees(got, ok)(nearest(a, b)) {
				t.Errorf("P2.5: Simplest(%v, %v) = %v, %v", a, b, got, ok)
			}
		}
	}
}

// isSimplest tells whether r, of Den 2 or more, is the simplest from a to b,
// which are above 0. Its neighbours are the ratios next to it, below and above,
// of those with a lesser Den than its own; all that lies between the two, but r,
// has a greater Den: r is the simplest if and only if neither is from a to b.
func isSimplest(r, a, b Ratio) bool {
	n, d := big.NewInt(r.Num), big.NewInt(r.Den)
	lowDen := new(big.Int).ModInverse(n, d)
	lowNum := new(big.Int).Mul(n, lowDen)
	lowNum.Sub(lowNum, big.NewInt(1)).Quo(lowNum, d)
	highDen := new(big.Int).Sub(d, lowDen)
	highNum := new(big.Int).Sub(n, lowNum)
	low := new(big.Rat).SetFrac(lowNum, lowDen)
	high := new(big.Rat).SetFrac(highNum, highDen)
	return rat(a).Cmp(rat(r)) <= 0 && rat(r).Cmp(rat(b)) <= 0 && low.Cmp(rat(a)) < 0 && high.Cmp(rat(b)) > 0
}

// wanted tells whether r is what Simplest(a, b) must answer, where a isn't above b.
func wanted(r Ratio, ok bool, a, b Ratio) bool {
	switch {
	case a.Num <= 0 && b.Num >= 0:
		return ok && r == Of(0)
	case b.Num < 0 && (a.Num == least || b.Num == least):
		return !ok && r == Ratio{}
	case b.Num < 0:
		return wanted(Ratio{-r.Num, r.Den}, ok, Ratio{-b.Num, b.Den}, Ratio{-a.Num, a.Den})
	case !ok || !isGood(r.Num, r.Den):
		return false
	case r.Den == 1:
		up := (a.Num-1)/a.Den + 1
		return r.Num == up && rat(r).Cmp(rat(b)) <= 0
	}
	return isSimplest(r, a, b)
}

func TestSimplestOfEdges(t *testing.T) {
	l := append(good(), Ratio{7540113804746346429, 4660046610375530309}, Ratio{4660046610375530309, 2880067194370816120},
		Ratio{-7540113804746346429, 4660046610375530309}, Ratio{-4660046610375530309, 2880067194370816120},
		Ratio{most, most - 1}, Ratio{most - 1, most}, Ratio{most - 2, most - 1}, Ratio{most - 3, most - 2})
	for _, a := range l {
		for _, b := range l {
			got, ok := Simplest(a, b)
			if rat(a).Cmp(rat(b)) > 0 {
				if ok || got != (Ratio{}) {
					t.Errorf("P2.5: Simplest(%v, %v) = %v, %v", a, b, got, ok)
				}
				continue
			}
			if !wanted(got, ok, a, b) {
				t.Errorf("P2.5: Simplest(%v, %v) = %v, %v", a, b, got, ok)
			}
		}
	}
}

func TestSimplestTable(t *testing.T) {
	for _, x := range []struct {
		a, b, want Ratio
		ok         bool
	}{
		{Ratio{1, 3}, Ratio{2, 3}, Ratio{1, 2}, true},
		{Ratio{5, 2}, Ratio{7, 2}, Ratio{3, 1}, true},
		{Ratio{5, 2}, Ratio{9, 2}, Ratio{3, 1}, true},
		{Ratio{-9, 2}, Ratio{-5, 2}, Ratio{-3, 1}, true},
		{Ratio{2, 5}, Ratio{2, 5}, Ratio{2, 5}, true},
		{Ratio{314, 100}, Ratio{22, 7}, Ratio{}, false},
		{Ratio{157, 50}, Ratio{22, 7}, Ratio{22, 7}, true},
		{Ratio{0, 1}, Ratio{most, 1}, Ratio{0, 1}, true},
		{Ratio{least, 1}, Ratio{0, 1}, Ratio{0, 1}, true},
		{Ratio{least, 1}, Ratio{most, 1}, Ratio{0, 1}, true},
		{Ratio{least, 1}, Ratio{least, 1}, Ratio{}, false},
		{Ratio{least, 1}, Ratio{-1, 3}, Ratio{}, false},
		{Ratio{-1, 1}, Ratio{least, most}, Ratio{}, false},
		{Ratio{-5, 1}, Ratio{least, 3}, Ratio{}, false},
		{Ratio{-2, 1}, Ratio{least, most}, Ratio{}, false},
		{Ratio{least, most}, Ratio{-1, 1}, Ratio{}, false},
		{Ratio{-most, 1}, Ratio{-most, 1}, Ratio{-most, 1}, true},
		{Ratio{1, most}, Ratio{1, most}, Ratio{1, most}, true},
		{Ratio{1, most}, Ratio{1, most - 1}, Ratio{1, most - 1}, true},
		{Ratio{most - 1, most}, Ratio{most - 1, most}, Ratio{most - 1, most}, true},
		{Ratio{most - 1, most}, Ratio{1, 1}, Ratio{1, 1}, true},
		{Ratio{most, 1}, Ratio{most, 1}, Ratio{most, 1}, true},
		{Ratio{1, 1}, Ratio{0, 1}, Ratio{}, false},
	} {
		if got, ok := Simplest(x.a, x.b); got != x.want || ok != x.ok {
			t.Errorf("P2.5: Simplest(%v, %v) = %v, %v", x.a, x.b, got, ok)
		}
	}
}

func TestText(t *testing.T) {
	for _, r := range good() {
		want := strconv.FormatInt(r.Num, 10)
		if r.Den != 1 {
			want += "/" + strconv.FormatInt(r.Den, 10)
		}
		if got := r.Text(); got != want {
			t.Errorf("P2.4: %v: %q", r, got)
		}
		if back, e := Parse(want); back != r || e != api.OK {
			t.Errorf("P2.4: Parse(%q) = %v, %v", want, back, e)
		}
	}
	for _, r := range bad {
		if got := r.Text(); got != "" {
			t.Errorf("P2.4: %v: %q", r, got)
		}
	}
}

func TestParse(t *testing.T) {
	for _, x := range []struct {
		s    string
		want Ratio
	}{
		{"0", Ratio{0, 1}}, {"-3/2", Ratio{-3, 2}}, {"7", Ratio{7, 1}}, {"-7", Ratio{-7, 1}}, {"10/3", Ratio{10, 3}},
		{"9223372036854775807", Ratio{most, 1}},
		{"-9223372036854775808", Ratio{least, 1}},
		{"-9223372036854775808/9223372036854775807", Ratio{least, most}},
		{"1/9223372036854775807", Ratio{1, most}},
	} {
		if r, e := Parse(x.s); r != x.want || e != api.OK {
			t.Errorf("P2.4: Parse(%q) = %v, %v", x.s, r, e)
		}
	}
}

func TestParseRefuses(t *testing.T) {
	for _, s := range []string{
		"", "/", "-", "+", "1/", "/2", "-/2", "1/-", "1//2", "1/2/3", "1/2/", "/1/2",
		"-0", "+0", "00", "01", "-01", "+1", "1/02", "1/+2", "01/2", "0/1", "0/2", "-0/1", "1/1", "3/1", "2/4", "6/3",
		"1/0", "0/0", "1/-2", "-1/-2", "--1", "- 1", " 1", "1 ", "1/ 2", "1 /2", "1/2 ", "1/2\n", "\t1", "1\x00",
		"1.5", "1e3", "0x10", "1_000", "1,000", "a", "1a", "1/a", "½", "١", "1\xff", "\xff",
		"9223372036854775808", "-9223372036854775809", "1/9223372036854775808", "99999999999999999999/2",
		"-9223372036854775808/2", strings.Repeat("1", 100000), strings.Repeat("0", 100000) + "1",
		"1/" + strings.Repeat("3", 100000), strings.Repeat("/", 100000),
	} {
		if r, e := Parse(s); r != (Ratio{}) || e != api.ErrForm {
			t.Errorf("P2.4: Parse(%.40q) = %v, %v", s, r, e)
		}
	}
}

// TestParseOfAllShort holds Parse against Text: a short text is parsed if and
// only if it is what Text tells of some small ratio.
func TestParseOfAllShort(t *testing.T) {
	signs := map[string]Ratio{}
	for d := int64(1); d <= 222; d++ {
		for n := int64(-222); n <= 2222; n++ {
			if r := (Ratio{n, d}); r.Good() {
				signs[r.Text()] = r
			}
		}
	}
	texts := []string{""}
	for i := 0; i < len(texts); i++ {
		s := texts[i]
		want, isSigns := signs[s]
		r, e := Parse(s)
		if r != want || (e == api.OK) != isSigns || e != api.OK && e != api.ErrForm {
			t.Fatalf("P2.4: Parse(%q) = %v, %v", s, r, e)
		}
		for _, c := range "012+-/ " {
			if len(s) < 4 {
				texts = append(texts, s+string(c))
			}
		}
	}
}
