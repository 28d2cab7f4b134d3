package ratio_test

import (
	"math"
	"math/big"
	"slices"
	"strings"
	"testing"

	"bitext/api"
	"bitext/ratio"
)

const most = api.MaxInt

// none is the ratio that comes with false.
var none = api.Ratio{}

func r(num, den int) api.Ratio { return api.Ratio{Num: num, Den: den} }

// integers are small numbers, the neighbours of every limit, and the ends of int.
func integers() []int {
	all := []int{0, math.MinInt, math.MinInt + 1, math.MaxInt, math.MaxInt - 1}
	for _, n := range []int{
		1, 2, 3, 4, 5, 6, 7, 10, 12, 99, 100, 30030, 65535, 65536, most / 2, most/2 + 1, most - 2, most - 1, most,
		most + 1, most + 2, 1<<31 - 2, 1<<31 - 1, 1 << 31, 1<<31 + 1, 1<<31 + 2, 1 << 32, 1<<62 - 1, 1 << 62,
	} {
		all = append(all, n, -n)
	}
	return all
}

// isValid states the first sentence of P2.1 with big numbers.
func isValid(x api.Ratio) bool {
	if x.Num < -most || x.Num > most || x.Den < 1 || x.Den > most {
		return false
	}
	num := big.NewInt(int64(x.Num))
	return new(big.Int).GCD(nil, nil, num.Abs(num), big.NewInt(int64(x.Den))).Cmp(big.NewInt(1)) == 0
}

// exact returns the value of a valid ratio.
func exact(x api.Ratio) *big.Rat { return big.NewRat(int64(x.Num), int64(x.Den)) }

// fit returns the valid ratio with the value v, if there is one.
func fit(v *big.Rat) (api.Ratio, bool) {
	if !v.Num().IsInt64() || !v.Denom().IsInt64() {
		return none, false
	}
	x := r(int(v.Num().Int64()), int(v.Denom().Int64()))
	if !isValid(x) {
		return none, false
	}
	return x, true
}

// ratios are pairs of border numbers, valid and not.
func ratios() []api.Ratio {
	numbers := []int{
		0, 1, 2, 3, 4, 6, 9, 10, 200, 1000, 32767, 32768, 46341, 65535, 65536, most / 2, most - 2, most - 1, most, most + 1, 1 << 31,
		math.MaxInt, -1, -2, -3, -4, -7, -200, -32768, -65536, -most / 2, -most + 1, -most, -most - 1, -1 << 31, math.MinInt + 1, math.MinInt,
	}
	var all []api.Ratio
	for _, num := range numbers {
		for _, den := range numbers {
			// Negative denominators are never valid: a few of them are enough.
			if den >= 0 || num == 1 || num == -2 || num == den {
				all = append(all, r(num, den))
			}
		}
	}
	return all
}

// valids are the valid ones of ratios.
func valids() []api.Ratio {
	return slices.DeleteFunc(ratios(), func(x api.Ratio) bool { return !isValid(x) })
}

// invalids are ratios that every call refuses: not in lowest terms, with a
// denominator below 1, or beyond the limits.
var invalids = []api.Ratio{
	r(0, 0), r(1, 0), r(-1, 0), r(0, 2), r(0, most), r(2, 2), r(2, 4), r(-2, 4), r(6, 3), r(most, most), r(most, 2),
	r(1, -1), r(1, -2), r(0, -1), r(-1, -2), r(1, -most),
	r(most+1, 1), r(-most-1, 1), r(1, most+1), r(most+1, most-1), r(1<<31, 1), r(-1<<31, 1), r(1, 1<<31),
	r(math.MinInt, 1), r(math.MaxInt, 1), r(1, math.MinInt), r(1, math.MaxInt),
	r(math.MinInt, math.MinInt), r(math.MaxInt, math.MaxInt), r(math.MinInt, math.MaxInt), r(0, math.MinInt), r(math.MinInt, 0),
}

// P2.1: examples, zero and negative denominators, and both limits of each number.
func TestMakeValues(t *testing.T) {
	for _, x := range []struct {
		num, den int
		want     api.Ratio
		ok       bool
	}{
		{1, 2, r(1, 2), true}, {4, 6, r(2, 3), true}, {6, 3, r(2, 1), true}, {4, -6, r(-2, 3), true}, {-4, 6, r(-2, 3), true}, {-4, -6, r(2, 3), true},
		{0, 5, r(0, 1), true}, {0, -5, r(0, 1), true}, {0, 1 << 31, r(0, 1), true}, {0, -1 << 31, r(0, 1), true},
		{0, 0, none, false}, {1, 0, none, false}, {-1, 0, none, false}, {1 << 31, 0, none, false},
		{most, 1, r(most, 1), true}, {-most, 1, r(-most, 1), true}, {most, -1, r(-most, 1), true}, {1, most, r(1, most), true}, {1, -most, r(-1, most), true},
		{most + 1, 1, none, false}, {-most - 1, 1, none, false}, {1, most + 1, none, false}, {-1, -most - 1, none, false},
		{most + 1, most + 1, r(1, 1), true}, {2*most - 2, 2, r(most-1, 1), true}, {2, 2*most - 2, r(1, most-1), true},
		{1 << 31, 2, r(most, 1), true}, {-1 << 31, 2, r(-most, 1), true}, {1 << 31, -2, r(-most, 1), true}, {2, 1 << 31, r(1, most), true}, {2, -1 << 31, r(-1, most), true},
		{1 << 31, 1 << 31, r(1, 1), true}, {-1 << 31, -1 << 31, r(1, 1), true}, {1 << 31, -1 << 31, r(-1, 1), true},
		{1 << 31, 1, none, false}, {1 << 31, 3, none, false}, {3, 1 << 31, none, false}, {1, -1 << 31, none, false},
		{1<<31 - 1, 1<<31 - 1, r(1, 1), true}, {1<<31 - 1, 1, none, false},
		{1<<31 + 1, 1<<31 + 1, none, false}, {1<<31 + 2, 2, none, false}, {-1<<31 - 2, 2, none, false}, {2, 1<<31 + 2, none, false}, {0, 1<<31 + 1, none, false}, {0, -1<<31 - 1, none, false},
		{math.MinInt, 1, none, false}, {1, math.MinInt, none, false}, {math.MinInt, math.MinInt, none, false}, {math.MaxInt, math.MaxInt, none, false}, {0, math.MinInt, none, false}, {math.MinInt, 0, none, false}, {math.MinInt, -1, none, false},
	} {
		if got, ok := ratio.Make(x.num, x.den); got != x.want || ok != x.ok {
			t.Errorf("Make(%d, %d) = %v, %v, not %v, %v", x.num, x.den, got, ok, x.want, x.ok)
		}
	}
}

// P2.1: Make on all pairs of border numbers and of small numbers.
func TestMakeEveryPair(t *testing.T) {
	const bound = 1 << 31
	check := func(num, den int) {
		var want api.Ratio
		wantOK := false
		if den != 0 && num >= -bound && num <= bound && den >= -bound && den <= bound {
			want, wantOK = fit(big.NewRat(int64(num), int64(den)))
		}
		if got, ok := ratio.Make(num, den); got != want || ok != wantOK {
			t.Errorf("Make(%d, %d) = %v, %v, not %v, %v", num, den, got, ok, want, wantOK)
		}
	}
	for _, num := range integers() {
		for _, den := range integers() {
			check(num, den)
		}
	}
	for num := -40; num <= 40; num++ {
		for den := -40; den <= 40; den++ {
			check(num, den)
		}
	}
}

// P2.1: Valid on the borders, named one by one.
func TestValidValues(t *testing.T) {
	for _, x := range []api.Ratio{
		r(0, 1), r(1, 1), r(-1, 1), r(1, 2), r(-1, 2), r(7, 3), r(most, 1), r(-most, 1), r(1, most), r(-1, most),
		r(most, most-1), r(-most, most-1), r(most-1, most), r(most, 3),
	} {
		if !ratio.Valid(x) {
			t.Errorf("Valid(%v) is false", x)
		}
	}
	for _, x := range invalids {
		if ratio.Valid(x) {
			t.Errorf("Valid(%v) is true", x)
		}
	}
}

// P2.1: Valid on all pairs of border numbers and of small numbers.
func TestValidEveryPair(t *testing.T) {
	check := func(x api.Ratio) {
		if got, want := ratio.Valid(x), isValid(x); got != want {
			t.Errorf("Valid(%v) = %v", x, got)
		}
	}
	for _, num := range integers() {
		for _, den := range integers() {
			check(r(num, den))
		}
	}
	for num := -40; num <= 40; num++ {
		for den := -40; den <= 40; den++ {
			check(r(num, den))
		}
	}
}

// operations are the calls of P2.2 on two ratios, beside their exact meanings.
var operations = []struct {
	name  string
	call  func(a, b api.Ratio) (api.Ratio, bool)
	exact func(a, b *big.Rat) *big.Rat
}{
	{"Add", ratio.Add, func(a, b *big.Rat) *big.Rat { return new(big.Rat).Add(a, b) }},
	{"Subtract", ratio.Subtract, func(a, b *big.Rat) *big.Rat { return new(big.Rat).Sub(a, b) }},
	{"Multiply", ratio.Multiply, func(a, b *big.Rat) *big.Rat { return new(big.Rat).Mul(a, b) }},
}

// P2.2: ordinary values, and values at and just beyond the limits.
func TestOperationsValues(t *testing.T) {
	for _, x := range []struct {
		name string
		a, b api.Ratio
		want api.Ratio
		ok   bool
	}{
		{"Add", r(1, 2), r(1, 3), r(5, 6), true}, {"Add", r(1, 6), r(1, 3), r(1, 2), true}, {"Add", r(1, 2), r(-1, 2), r(0, 1), true}, {"Add", r(-1, 2), r(-1, 2), r(-1, 1), true}, {"Add", r(0, 1), r(-3, 7), r(-3, 7), true},
		{"Add", r(most-1, 1), r(1, 1), r(most, 1), true}, {"Add", r(most, 1), r(1, 1), none, false}, {"Add", r(-most+1, 1), r(-1, 1), r(-most, 1), true}, {"Add", r(-most, 1), r(-1, 1), none, false},
		{"Add", r(most, 1), r(-most, 1), r(0, 1), true}, {"Add", r(most, 1), r(most, 1), none, false}, {"Add", r(-most, 1), r(-most, 1), none, false},
		{"Add", r(1, 1<<15), r(1, 3), r(1<<15+3, 3<<15), true}, {"Add", r(1, most), r(1, most), r(1, most/2), true}, {"Add", r(1, most), r(-1, most), r(0, 1), true}, {"Add", r(1, most/2), r(1, most), r(3, most), true}, {"Add", r(1, most), r(1, 3), none, false}, {"Add", r(1, most), r(1, most-1), none, false}, {"Add", r(most, 1), r(1, 2), none, false},
		{"Subtract", r(1, 2), r(1, 2), r(0, 1), true}, {"Subtract", r(1, 3), r(1, 2), r(-1, 6), true}, {"Subtract", r(1, 2), r(1, 3), r(1, 6), true}, {"Subtract", r(-1, 2), r(-1, 3), r(-1, 6), true}, {"Subtract", r(0, 1), r(5, 1), r(-5, 1), true},
		{"Subtract", r(-most+1, 1), r(1, 1), r(-most, 1), true}, {"Subtract", r(-most, 1), r(1, 1), none, false}, {"Subtract", r(most, 1), r(-1, 1), none, false}, {"Subtract", r(0, 1), r(most, 1), r(-most, 1), true}, {"Subtract", r(0, 1), r(-most, 1), r(most, 1), true}, {"Subtract", r(most, 1), r(most, 1), r(0, 1), true},
		{"Multiply", r(2, 3), r(-3, 4), r(-1, 2), true}, {"Multiply", r(-2, 3), r(-3, 4), r(1, 2), true}, {"Multiply", r(0, 1), r(-1, most), r(0, 1), true},
		{"Multiply", r(most, 1), r(1, most), r(1, 1), true}, {"Multiply", r(-most, 1), r(1, most), r(-1, 1), true}, {"Multiply", r(1<<15, 1), r(1<<15, 1), r(most, 1), true}, {"Multiply", r(-1<<15, 1), r(1<<15, 1), r(-most, 1), true}, {"Multiply", r(1, 1<<15), r(1, 1<<15), r(1, most), true},
		{"Multiply", r(most, 1), r(2, 1), none, false}, {"Multiply", r(1<<15, 1), r(1<<15+1, 1), none, false}, {"Multiply", r(1, most), r(1, 2), none, false}, {"Multiply", r(1, 1<<15), r(1, 1<<15+1), none, false}, {"Multiply", r(most, 1), r(most, 1), none, false}, {"Multiply", r(-most, 1), r(most, 1), none, false}, {"Multiply", r(1, most), r(1, most), none, false},
	} {
		for _, o := range operations {
			if o.name != x.name {
				continue
			}
			if got, ok := o.call(x.a, x.b); got != x.want || ok != x.ok {
				t.Errorf("%s(%v, %v) = %v, %v, not %v, %v", x.name, x.a, x.b, got, ok, x.want, x.ok)
			}
		}
	}
}

// P2.2: all pairs of ratios of border numbers, against exact arithmetic.
func TestOperationsEveryPair(t *testing.T) {
	all := valids()
	if len(all) < 200 {
		t.Fatalf("only %d valid ratios", len(all))
	}
	values := make([]*big.Rat, len(all))
	for i, x := range all {
		values[i] = exact(x)
	}
	for _, o := range operations {
		for i, a := range all {
			for j, b := range all {
				want, wantOK := fit(o.exact(values[i], values[j]))
				if got, ok := o.call(a, b); got != want || ok != wantOK {
					t.Fatalf("%s(%v, %v) = %v, %v, not %v, %v", o.name, a, b, got, ok, want, wantOK)
				}
			}
		}
	}
}

// P2.2: a ratio that is not valid, on either side, also where the value that it
// seems to have would lead to a valid result.
func TestOperationsInvalid(t *testing.T) {
	for _, o := range operations {
		for _, bad := range invalids {
			for _, other := range slices.Concat(invalids, []api.Ratio{r(0, 1), r(1, 1), r(1, 2), r(-3, 1), r(most, 1), r(1, most)}) {
				if got, ok := o.call(bad, other); got != none || ok {
					t.Errorf("%s(%v, %v) = %v, %v", o.name, bad, other, got, ok)
				}
				if got, ok := o.call(other, bad); got != none || ok {
					t.Errorf("%s(%v, %v) = %v, %v", o.name, other, bad, got, ok)
				}
			}
		}
	}
}

// P2.2: the empty list, ordinary lists, sums on the way that have no valid
// ratio, and invalid elements at every place.
func TestSumValues(t *testing.T) {
	for _, x := range []struct {
		l    []api.Ratio
		want api.Ratio
		ok   bool
	}{
		{nil, r(0, 1), true},
		{[]api.Ratio{}, r(0, 1), true},
		{[]api.Ratio{r(-2, 3)}, r(-2, 3), true},
		{[]api.Ratio{r(most, 1)}, r(most, 1), true},
		{[]api.Ratio{r(1, most)}, r(1, most), true},
		{[]api.Ratio{r(1, 2), r(1, 3), r(1, 6)}, r(1, 1), true},
		{[]api.Ratio{r(1, 2), r(1, 4), r(1, 4), r(-1, 1)}, r(0, 1), true},
		{[]api.Ratio{r(1, 1), r(-1, 1), r(most, 1)}, r(most, 1), true},
		{[]api.Ratio{r(most, 1), r(-1, 1), r(1, 1)}, r(most, 1), true},
		{[]api.Ratio{r(most, 1), r(1, 1), r(-1, 1)}, none, false},
		{[]api.Ratio{r(-1, 1), r(most, 1), r(1, 1)}, r(most, 1), true},
		{[]api.Ratio{r(-most, 1), r(-1, 1), r(1, 1)}, none, false},
		{[]api.Ratio{r(-most, 1), r(1, 1), r(-1, 1)}, r(-most, 1), true},
		{[]api.Ratio{r(1, most), r(1, 3), r(-1, 3)}, none, false},
		{[]api.Ratio{r(1, 3), r(-1, 3), r(1, most)}, r(1, most), true},
		{[]api.Ratio{r(2, 2)}, none, false},
		{[]api.Ratio{r(0, 0), r(1, 1)}, none, false},
		{[]api.Ratio{r(1, 1), r(2, 2)}, none, false},
		{[]api.Ratio{r(1, 1), r(1, -1), r(1, 1)}, none, false},
		{[]api.Ratio{r(0, 1), r(0, 2)}, none, false},
		{[]api.Ratio{r(math.MinInt, 1), r(math.MinInt, 1)}, none, false},
		{[]api.Ratio{r(1, math.MinInt)}, none, false},
	} {
		if got, ok := ratio.Sum(x.l); got != x.want || ok != x.ok {
			t.Errorf("Sum(%v) = %v, %v, not %v, %v", x.l, got, ok, x.want, x.ok)
		}
	}
}

// P2.2: each element that is not valid spoils a sum, also as the only one.
func TestSumInvalid(t *testing.T) {
	for _, bad := range invalids {
		for _, l := range [][]api.Ratio{{bad}, {bad, r(1, 2)}, {r(1, 2), bad}, {r(0, 1), bad, r(0, 1)}} {
			if got, ok := ratio.Sum(l); got != none || ok {
				t.Errorf("Sum(%v) = %v, %v", l, got, ok)
			}
		}
	}
}

// sum adds exactly from the first element on, and asks for a valid ratio after
// each step.
func sum(l []api.Ratio) (api.Ratio, bool) {
	total := new(big.Rat)
	for _, x := range l {
		if !isValid(x) {
			return none, false
		}
		total.Add(total, exact(x))
		if _, ok := fit(total); !ok {
			return none, false
		}
	}
	return fit(total)
}

// P2.2: all lists of three ratios, some of which are at the limits or invalid.
func TestSumEveryList(t *testing.T) {
	few := []api.Ratio{
		r(0, 1), r(1, 1), r(-1, 1), r(1, 2), r(-1, 2), r(1, 3), r(-2, 3), r(most, 1), r(-most, 1), r(most-1, 1), r(-most+1, 1),
		r(1, most), r(-1, most), r(1, most-1), r(1, 1<<15), r(1, 1<<15-1), r(2, 2), r(1, 0), r(most+1, 1),
	}
	for _, a := range few {
		for _, b := range few {
			for _, c := range few {
				l := []api.Ratio{a, b, c}
				want, wantOK := sum(l)
				if got, ok := ratio.Sum(l); got != want || ok != wantOK {
					t.Fatalf("Sum(%v) = %v, %v, not %v, %v", l, got, ok, want, wantOK)
				}
			}
		}
	}
}

// P2.2: a long list comes to its exact sum.
func TestSumLongList(t *testing.T) {
	if got, ok := ratio.Sum(slices.Repeat([]api.Ratio{r(1, 3), r(1, 6)}, 5000)); got != r(2500, 1) || !ok {
		t.Errorf("Sum of 10000 ratios = %v, %v", got, ok)
	}
}

// R2: Sum changes neither its argument nor what lies behind it.
func TestSumKeepsItsArgument(t *testing.T) {
	all := []api.Ratio{r(1, 2), r(1, 3), r(1, 6), r(7, 1), r(8, 1)}
	if got, ok := ratio.Sum(all[:3]); got != r(1, 1) || !ok {
		t.Errorf("Sum = %v, %v", got, ok)
	}
	if !slices.Equal(all, []api.Ratio{r(1, 2), r(1, 3), r(1, 6), r(7, 1), r(8, 1)}) {
		t.Errorf("Sum left %v", all)
	}
}

// P2.3: the three results, close values at the limits, and both orders.
func TestCompareValues(t *testing.T) {
	for _, x := range []struct {
		a, b api.Ratio
		want int
	}{
		{r(1, 3), r(1, 2), -1}, {r(-1, 2), r(1, 3), -1}, {r(-1, 2), r(-1, 3), -1}, {r(0, 1), r(1, most), -1}, {r(-1, most), r(0, 1), -1}, {r(2, 3), r(3, 4), -1},
		{r(2, 3), r(2, 3), 0}, {r(0, 1), r(0, 1), 0}, {r(-most, 1), r(-most, 1), 0},
		{r(most-2, most-1), r(most-1, most), -1}, {r(1, most), r(1, most-1), -1}, {r(-most, 1), r(most, 1), -1}, {r(most-1, 1), r(most, 1), -1}, {r(-most, 1), r(-most+1, 1), -1},
	} {
		if got := ratio.Compare(x.a, x.b); got != x.want {
			t.Errorf("Compare(%v, %v) = %d, not %d", x.a, x.b, got, x.want)
		}
		if got := ratio.Compare(x.b, x.a); got != -x.want {
			t.Errorf("Compare(%v, %v) = %d, not %d", x.b, x.a, got, -x.want)
		}
	}
}

// P2.3: all pairs of ratios of border numbers, against exact arithmetic.
func TestCompareEveryPair(t *testing.T) {
	all := valids()
	for _, a := range all {
		for _, b := range all {
			if got, want := ratio.Compare(a, b), exact(a).Cmp(exact(b)); got != want {
				t.Fatalf("Compare(%v, %v) = %d, not %d", a, b, got, want)
			}
		}
	}
}

// P2.3: what is not valid compares as 0 with everything.
func TestCompareInvalid(t *testing.T) {
	for _, bad := range invalids {
		for _, other := range slices.Concat(invalids, []api.Ratio{r(0, 1), r(1, 1), r(-5, 1), r(most, 1), r(-most, 1), r(1, most), r(1, 3)}) {
			if got := ratio.Compare(bad, other); got != 0 {
				t.Errorf("Compare(%v, %v) = %d", bad, other, got)
			}
			if got := ratio.Compare(other, bad); got != 0 {
				t.Errorf("Compare(%v, %v) = %d", other, bad, got)
			}
		}
	}
}

// P2.4: whole and broken products of both signs, and both limits of scale.
func TestFloorValues(t *testing.T) {
	for _, x := range []struct {
		r           api.Ratio
		scale, want int
		ok          bool
	}{
		{r(-1, 2), 100, -50, true}, {r(-1, 3), 1, -1, true}, {r(1, 3), 1, 0, true}, {r(1, 3), -1, -1, true}, {r(-1, 3), -1, 0, true}, {r(2, 3), 100, 66, true}, {r(-2, 3), 100, -67, true}, {r(2, 3), -100, -67, true}, {r(-7, 2), 2, -7, true}, {r(7, 2), -2, -7, true}, {r(-7, 2), 1, -4, true}, {r(-5, 1), 3, -15, true},
		{r(0, 1), 7, 0, true}, {r(5, 7), 0, 0, true}, {r(-5, 7), 0, 0, true}, {r(-1, most), 1, -1, true}, {r(1, most), 1, 0, true},
		{r(most, 1), most, 1 << 60, true}, {r(most, 1), -most, -1 << 60, true}, {r(-most, 1), most, -1 << 60, true}, {r(-most, 1), -most, 1 << 60, true}, {r(1, most), most, 1, true}, {r(1, most), -most, -1, true}, {r(-1, most), most - 1, -1, true},
		{r(1, 1), most + 1, 0, false}, {r(1, 1), -most - 1, 0, false}, {r(1, most), most + 1, 0, false}, {r(0, 1), math.MaxInt, 0, false}, {r(0, 1), math.MinInt, 0, false}, {r(-1, 1), math.MinInt, 0, false},
	} {
		if got, ok := ratio.Floor(x.r, x.scale); got != x.want || ok != x.ok {
			t.Errorf("Floor(%v, %d) = %d, %v, not %d, %v", x.r, x.scale, got, ok, x.want, x.ok)
		}
	}
}

// P2.4: all ratios and scales of border numbers. Since the denominator is
// positive, Euclidean division is the floor.
func TestFloorEveryPair(t *testing.T) {
	for _, x := range ratios() {
		for _, scale := range integers() {
			want, wantOK := 0, isValid(x) && scale >= -most && scale <= most
			if wantOK {
				product := new(big.Int).Mul(big.NewInt(int64(x.Num)), big.NewInt(int64(scale)))
				want = int(product.Div(product, big.NewInt(int64(x.Den))).Int64())
			}
			if got, ok := ratio.Floor(x, scale); got != want || ok != wantOK {
				t.Fatalf("Floor(%v, %d) = %d, %v, not %d, %v", x, scale, got, ok, want, wantOK)
			}
		}
	}
}

// P2.5: signs, zeros, halves, carries, both limits of digits and of the values.
func TestFormatValues(t *testing.T) {
	for _, x := range []struct {
		r      api.Ratio
		digits int
		want   string
		ok     bool
	}{
		{r(2, 3), 2, "0.67", true}, {r(-1, 200), 2, "-0.01", true}, {r(-1, 1000), 2, "0.00", true}, {r(5, 1), 0, "5", true}, {r(-5, 1), 0, "-5", true}, {r(5, 1), 1, "5.0", true}, {r(1, 3), 6, "0.333333", true}, {r(1, 6), 6, "0.166667", true}, {r(22, 7), 4, "3.1429", true}, {r(-22, 7), 4, "-3.1429", true},
		{r(0, 1), 0, "0", true}, {r(0, 1), 3, "0.000", true}, {r(0, 1), 6, "0.000000", true}, {r(1, 100), 3, "0.010", true}, {r(1, 100), 2, "0.01", true}, {r(1, 100), 1, "0.0", true}, {r(-1, 100), 1, "0.0", true}, {r(1001, 100), 2, "10.01", true}, {r(-10, 1), 2, "-10.00", true}, {r(1200, 1), 0, "1200", true},
		{r(1, 2), 0, "1", true}, {r(-1, 2), 0, "-1", true}, {r(3, 2), 0, "2", true}, {r(5, 2), 0, "3", true}, {r(-5, 2), 0, "-3", true}, {r(1, 200), 2, "0.01", true}, {r(3, 200), 2, "0.02", true}, {r(-5, 4), 1, "-1.3", true}, {r(5, 4), 1, "1.3", true}, {r(1, 2000000), 6, "0.000001", true}, {r(-1, 2000000), 6, "-0.000001", true},
		{r(499999, 1000000), 0, "0", true}, {r(500001, 1000000), 0, "1", true}, {r(1, 2000001), 6, "0.000000", true}, {r(-1, 2000001), 6, "0.000000", true}, {r(1, 1999999), 6, "0.000001", true}, {r(1, 3), 0, "0", true}, {r(-1, 3), 0, "0", true}, {r(-2, 3), 0, "-1", true},
		{r(199, 200), 2, "1.00", true}, {r(-199, 200), 2, "-1.00", true}, {r(999, 1000), 2, "1.00", true}, {r(1999, 200), 2, "10.00", true}, {r(19, 2), 0, "10", true},
		{r(most, 1), 0, "1073741824", true}, {r(most, 1), 6, "1073741824.000000", true}, {r(-most, 1), 6, "-1073741824.000000", true}, {r(1, most), 6, "0.000000", true}, {r(-1, most), 6, "0.000000", true}, {r(most-1, most), 6, "1.000000", true}, {r(most, most-1), 6, "1.000000", true}, {r(most-1, 2), 1, "536870911.5", true},
		{r(1, 1), 7, "", false}, {r(1, 1), -1, "", false}, {r(0, 1), 7, "", false}, {r(1, 2), 100, "", false}, {r(1, 2), math.MaxInt, "", false}, {r(1, 2), math.MinInt, "", false},
	} {
		if got, ok := ratio.Format(x.r, x.digits); got != x.want || ok != x.ok {
			t.Errorf("Format(%v, %d) = %q, %v, not %q, %v", x.r, x.digits, got, ok, x.want, x.ok)
		}
	}
}

// format writes a valid ratio. FloatString rounds halves away from zero, too,
// but leaves the sign of what it rounds to 0.
func format(x api.Ratio, digits int) string {
	text := exact(x).FloatString(digits)
	if strings.Trim(text, "-0.") == "" {
		text = strings.TrimPrefix(text, "-")
	}
	return text
}

// P2.5: every number of digits with all ratios of border numbers, and with all
// the halves, quarters and thirds near the steps of rounding.
func TestFormatEveryPair(t *testing.T) {
	all := ratios()
	for _, den := range []int{1, 2, 3, 4, 7, 20, 200, 2000, 20000, 200000, 2000000, 20000000} {
		for num := -60; num <= 60; num++ {
			all = append(all, r(num, den))
		}
	}
	for _, x := range all {
		for digits := -2; digits <= 8; digits++ {
			want, wantOK := "", isValid(x) && digits >= 0 && digits <= 6
			if wantOK {
				want = format(x, digits)
			}
			if got, ok := ratio.Format(x, digits); got != want || ok != wantOK {
				t.Fatalf("Format(%v, %d) = %q, %v, not %q, %v", x, digits, got, ok, want, wantOK)
			}
		}
	}
}

// P2.4, P2.5: ratios that are not valid, whatever the other argument is.
func TestFloorAndFormatInvalid(t *testing.T) {
	for _, bad := range invalids {
		for _, n := range []int{-1, 0, 1, 2, 6, 7, most, -most, math.MinInt, math.MaxInt} {
			if got, ok := ratio.Floor(bad, n); got != 0 || ok {
				t.Errorf("Floor(%v, %d) = %d, %v", bad, n, got, ok)
			}
			if got, ok := ratio.Format(bad, n); got != "" || ok {
				t.Errorf("Format(%v, %d) = %q, %v", bad, n, got, ok)
			}
		}
	}
}
