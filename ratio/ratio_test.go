package ratio_test

import (
	"math"
	"math/big"
	"testing"

	"croft/api"
	"croft/ratio"
	"croft/wide"
)

var (
	most  = wide.Int{math.MaxUint64, math.MaxUint64, math.MaxUint64, math.MaxInt64}
	least = wide.Int{3: 1 << 63}
	one   = wide.Of(1)
	zero  = wide.Int{}
)

// call is one of those that put two fractions together.
type call struct {
	name string
	do   func(a, b ratio.Ratio) (ratio.Ratio, api.Errno)
	// paper reckons the Num and the Den of numbers without a bound, and tells
	// what it meets on the way.
	paper func(an, ad, bn, bd *big.Int) (n, d *big.Int, way []*big.Int)
}

func times(a, b *big.Int) *big.Int { return new(big.Int).Mul(a, b) }

// calls stand each beside the one that undoes it.
var calls = []call{
	{"Add", ratio.Add, func(an, ad, bn, bd *big.Int) (n, d *big.Int, way []*big.Int) {
		x, y := times(an, bd), times(bn, ad)
		return new(big.Int).Add(x, y), times(ad, bd), []*big.Int{x, y}
	}},
	{"Sub", ratio.Sub, func(an, ad, bn, bd *big.Int) (n, d *big.Int, way []*big.Int) {
		x, y := times(an, bd), times(bn, ad)
		return new(big.Int).Sub(x, y), times(ad, bd), []*big.Int{x, y}
	}},
	{"Mul", ratio.Mul, func(an, ad, bn, bd *big.Int) (n, d *big.Int, way []*big.Int) {
		return times(an, bn), times(ad, bd), nil
	}},
	{"Div", ratio.Div, func(an, ad, bn, bd *big.Int) (n, d *big.Int, way []*big.Int) {
		return times(an, bd), times(ad, bn), nil
	}},
}

// number is a as a number without a bound.
func number(a wide.Int) *big.Int {
	out := big.NewInt(int64(a[3]))
	for i := 2; i >= 0; i-- {
		out.Lsh(out, 64)
		out.Add(out, new(big.Int).SetUint64(a[i]))
	}
	return out
}

// fits tells whether n is from -2^255 to 2^255 - 1.
func fits(n *big.Int) bool {
	if n.Sign() < 0 {
		n = new(big.Int).Not(n)
	}
	return n.BitLen() <= 255
}

// reduced is n through d in numbers without a bound, and the error of Make.
func reduced(n, d *big.Int) (num, den *big.Int, e api.Errno) {
	if d.Sign() == 0 {
		return new(big.Int), new(big.Int), api.ErrZero
	}
	by := new(big.Int).GCD(nil, nil, new(big.Int).Abs(n), new(big.Int).Abs(d))
	r := new(big.Rat).SetFrac(n, d)
	if !fits(by) || !fits(r.Num()) || !fits(r.Denom()) {
		return new(big.Int), new(big.Int), api.ErrLarge
	}
	return r.Num(), r.Denom(), api.OK
}

// same tells whether a has just this Num and this Den.
func same(a ratio.Ratio, num, den *big.Int) bool {
	return number(a.Num).Cmp(num) == 0 && number(a.Den).Cmp(den) == 0
}

// rat is what a right fraction stands for.
func rat(a ratio.Ratio) *big.Rat { return new(big.Rat).SetFrac(number(a.Num), number(a.Den)) }

func of(n, d int64) ratio.Ratio {
	a, _ := ratio.Make(wide.Of(n), wide.Of(d))
	return a
}

// numbers are small ones, those around some powers of two, and the ends.
func numbers() []wide.Int {
	out := []wide.Int{most, least, {1, 0, 0, 1 << 63}}
	for n := int64(-13); n <= 13; n++ {
		out = append(out, wide.Of(n))
	}
	for _, k := range []int{31, 62, 63, 64, 84, 85, 126, 127, 128, 170, 191, 192, 253, 254} {
		power, _ := wide.Shl(one, k)
		for d := int64(-1); d <= 1; d++ {
			a, _ := wide.Add(power, wide.Of(d))
			b, _ := wide.Neg(a)
			out = append(out, a, b)
		}
	}
	return out
}

// mixed are numbers of all lengths up to that many bits, whose bits follow one
// another without a pattern.
func mixed(count, bits int) []wide.Int {
	state := uint64(3)
	next := func() uint64 {
		state = state*6364136223846793005 + 1442695040888963407
		return state>>32 ^ state
	}
	out := make([]wide.Int, count)
	for i := range out {
		out[i] = wide.Shr(wide.Int{next(), next(), next(), next()}, 256-bits+int(next()%uint64(bits)))
	}
	return out
}

// fractions are those of numbers that lie near one another in a list.
func fractions(list []wide.Int) []ratio.Ratio {
	var out []ratio.Ratio
	for i, n := range list {
		for _, k := range []int{1, 2, 5} {
			if a, e := ratio.Make(n, list[(i+k)%len(list)]); e == api.OK {
				out = append(out, a)
			}
		}
	}
	return out
}

// pairs calls do for pairs of fractions, from small ones to the greatest.
func pairs(do func(a, b ratio.Ratio)) {
	for _, list := range [][]wide.Int{numbers(), mixed(80, 20), mixed(80, 64), mixed(80, 127), mixed(80, 255)} {
		all := fractions(list)
		for i, a := range all {
			for j := i % 23; j < len(all); j += 23 {
				do(a, all[j])
			}
		}
	}
}

// wrong are fractions that aren't right.
func wrong() []ratio.Ratio {
	six := wide.Of(6)
	minus := wide.Of(-1)
	return []ratio.Ratio{
		{},
		{one, zero},
		{minus, zero},
		{most, zero},
		{least, zero},
		{one, minus},
		{zero, minus},
		{one, least},
		{least, least},
		{zero, least},
		{least, minus},
		{zero, wide.Of(2)},
		{zero, most},
		{wide.Of(2), wide.Of(4)},
		{wide.Of(-3), wide.Of(3)},
		{six, wide.Of(9)},
		{wide.Of(-3), wide.Of(-2)},
		{most, most},
		{least, wide.Of(2)},
		{least, wide.Int{3: 1 << 62}},
		{six, wide.Int{2: 1 << 40}},
	}
}

// Promise 4.1: Make, Whole, Right, Sign, Cmp.

func TestMakeReduces(t *testing.T) {
	try := func(n, d wide.Int) {
		num, den, want := reduced(number(n), number(d))
		if a, e := ratio.Make(n, d); e != want || !same(a, num, den) {
			t.Fatalf("Make(%s, %s) = %v, %d, not %v/%v, %d", wide.Text(n), wide.Text(d), a, e, num, den, want)
		}
	}
	for _, n := range numbers() {
		for _, d := range numbers() {
			try(n, d)
		}
	}
	m := mixed(4000, 255)
	for i := range m[1:] {
		try(m[i], m[i+1])
	}
	m = mixed(3000, 100)
	for i := range m[2:] {
		n, _ := wide.Mul(m[i], m[i+2])
		d, _ := wide.Mul(m[i+1], m[i+2])
		try(n, d)
	}
}

func TestMakeAtTheEnds(t *testing.T) {
	half, minusHalf := wide.Int{3: 1 << 62}, wide.Int{3: 3 << 62}
	none := ratio.Ratio{}
	for _, c := range []struct {
		n, d wide.Int
		want ratio.Ratio
		e    api.Errno
	}{
		{wide.Of(6), wide.Of(-4), ratio.Ratio{Num: wide.Of(-3), Den: wide.Of(2)}, api.OK},
		{wide.Of(-6), wide.Of(-4), ratio.Ratio{Num: wide.Of(3), Den: wide.Of(2)}, api.OK},
		{zero, wide.Of(-7), ratio.Ratio{Den: one}, api.OK},
		{zero, most, ratio.Ratio{Den: one}, api.OK},
		{zero, zero, none, api.ErrZero},
		{one, zero, none, api.ErrZero},
		{least, zero, none, api.ErrZero},
		{least, least, none, api.ErrLarge},
		{zero, least, none, api.ErrLarge},
		{one, least, none, api.ErrLarge},
		{most, least, none, api.ErrLarge},
		{least, wide.Of(-1), none, api.ErrLarge},
		{least, wide.Of(-3), none, api.ErrLarge},
		{least, one, ratio.Ratio{Num: least, Den: one}, api.OK},
		{least, wide.Of(3), ratio.Ratio{Num: least, Den: wide.Of(3)}, api.OK},
		{least, most, ratio.Ratio{Num: least, Den: most}, api.OK},
		{least, wide.Of(-2), ratio.Ratio{Num: half, Den: one}, api.OK},
		{least, wide.Of(-6), ratio.Ratio{Num: half, Den: wide.Of(3)}, api.OK},
		{wide.Of(2), least, ratio.Ratio{Num: wide.Of(-1), Den: half}, api.OK},
		{wide.Of(-6), least, ratio.Ratio{Num: wide.Of(3), Den: half}, api.OK},
		{least, half, ratio.Whole(-2), api.OK},
		{least, minusHalf, ratio.Whole(2), api.OK},
		{most, most, ratio.Whole(1), api.OK},
		{one, most, ratio.Ratio{Num: one, Den: most}, api.OK},
	} {
		if a, e := ratio.Make(c.n, c.d); a != c.want || e != c.e {
			t.Errorf("Make(%s, %s) = %v, %d", wide.Text(c.n), wide.Text(c.d), a, e)
		}
	}
}

func TestWhole(t *testing.T) {
	for _, n := range []int64{0, 1, -1, 2, 1 << 28, -1 << 28, math.MaxInt64, math.MinInt64} {
		if a := ratio.Whole(n); a != (ratio.Ratio{Num: wide.Of(n), Den: one}) || !ratio.Right(a) {
			t.Errorf("Whole(%d) = %v", n, a)
		}
	}
}

func TestRightOfWrongOnes(t *testing.T) {
	for _, a := range wrong() {
		if ratio.Right(a) {
			t.Errorf("%v is right", a)
		}
	}
}

func TestRight(t *testing.T) {
	for _, a := range []ratio.Ratio{
		{Den: one}, {Num: one, Den: one}, {Num: wide.Of(-1), Den: one}, {Num: wide.Of(-9), Den: wide.Of(4)},
		{Num: least, Den: one}, {Num: least, Den: most}, {Num: most, Den: one}, {Num: one, Den: most},
	} {
		if !ratio.Right(a) {
			t.Errorf("%v isn't right", a)
		}
	}
	for _, n := range numbers() {
		for _, d := range numbers() {
			by := new(big.Int).GCD(nil, nil, new(big.Int).Abs(number(n)), new(big.Int).Abs(number(d)))
			want := wide.Sign(d) > 0 && by.Cmp(big.NewInt(1)) == 0
			if got := ratio.Right(ratio.Ratio{Num: n, Den: d}); got != want {
				t.Errorf("Right(%s/%s) = %t", wide.Text(n), wide.Text(d), got)
			}
		}
	}
}

func TestSign(t *testing.T) {
	for _, a := range append(fractions(numbers()), fractions(mixed(500, 255))...) {
		if got, want := ratio.Sign(a), rat(a).Sign(); got != want {
			t.Errorf("Sign(%s) = %d", ratio.Text(a), got)
		}
	}
}

func TestCmp(t *testing.T) {
	pairs(func(a, b ratio.Ratio) {
		if got, want := ratio.Cmp(a, b), rat(a).Cmp(rat(b)); got != want {
			t.Fatalf("Cmp(%s, %s) = %d", ratio.Text(a), ratio.Text(b), got)
		}
	})
}

func TestCmpOfWhatIsTooGreatForASum(t *testing.T) {
	next := wide.Int{math.MaxUint64 - 1, math.MaxUint64, math.MaxUint64, math.MaxInt64}
	for _, c := range []struct {
		a, b ratio.Ratio
		want int
	}{
		{ratio.Ratio{Num: most, Den: next}, ratio.Ratio{Num: next, Den: most}, 1},
		{ratio.Ratio{Num: next, Den: most}, ratio.Ratio{Num: most, Den: next}, -1},
		{ratio.Ratio{Num: least, Den: most}, ratio.Whole(-1), -1},
		{ratio.Ratio{Num: one, Den: most}, ratio.Ratio{Num: one, Den: next}, -1},
		{ratio.Ratio{Num: one, Den: most}, ratio.Whole(0), 1},
		{ratio.Ratio{Num: least, Den: one}, ratio.Ratio{Num: most, Den: one}, -1},
		{ratio.Ratio{Num: next, Den: most}, ratio.Ratio{Num: next, Den: most}, 0},
	} {
		if got := ratio.Cmp(c.a, c.b); got != c.want {
			t.Errorf("Cmp(%s, %s) = %d", ratio.Text(c.a), ratio.Text(c.b), got)
		}
	}
}

func TestCallsRefuseWrongFractions(t *testing.T) {
	for _, a := range wrong() {
		if s, text, floor := ratio.Sign(a), ratio.Text(a), ratio.Floor(a); s != 0 || text != "" || floor != zero {
			t.Errorf("of %v: Sign %d, Text %q, Floor %v", a, s, text, floor)
		}
		// Nought, too: ahead of ErrZero stands ErrArg.
		others := append(wrong(), ratio.Whole(0), ratio.Whole(7), of(-3, 2), ratio.Ratio{Num: most, Den: one})
		for _, b := range others {
			if x, y := ratio.Cmp(a, b), ratio.Cmp(b, a); x != 0 || y != 0 {
				t.Errorf("Cmp of %v and %v = %d, %d", a, b, x, y)
			}
			for _, c := range calls {
				for _, p := range [][2]ratio.Ratio{{a, b}, {b, a}} {
					if got, e := c.do(p[0], p[1]); got != (ratio.Ratio{}) || e != api.ErrArg {
						t.Errorf("%s(%v, %v) = %v, %d", c.name, p[0], p[1], got, e)
					}
				}
			}
		}
	}
}

// Promise 4.2: Add, Sub, Mul, Div.

// onPaper is what a call must answer: the Num, the Den and the error.
func onPaper(c call, a, b ratio.Ratio) (num, den *big.Int, e api.Errno) {
	n, d, way := c.paper(number(a.Num), number(a.Den), number(b.Num), number(b.Den))
	if c.name == "Div" && b == ratio.Whole(0) {
		return new(big.Int), new(big.Int), api.ErrZero
	}
	for _, x := range append(way, n, d) {
		if !fits(x) {
			return new(big.Int), new(big.Int), api.ErrLarge
		}
	}
	return reduced(n, d)
}

func TestCallsReckonAsOnPaper(t *testing.T) {
	for _, c := range calls {
		pairs(func(a, b ratio.Ratio) {
			num, den, want := onPaper(c, a, b)
			if got, e := c.do(a, b); e != want || !same(got, num, den) {
				t.Fatalf("%s(%s, %s) = %v, %d, not %v/%v, %d", c.name, ratio.Text(a), ratio.Text(b), got, e, num, den, want)
			}
		})
	}
}

func TestCallsAtTheEnds(t *testing.T) {
	whole := func(n wide.Int) ratio.Ratio { return ratio.Ratio{Num: n, Den: one} }
	half := wide.Int{3: 1 << 62}
	root := wide.Int{2: 1} // 2^128: its square doesn't fit
	none, nought := ratio.Ratio{}, ratio.Whole(0)
	for _, c := range []struct {
		call int
		a, b ratio.Ratio
		want ratio.Ratio
		e    api.Errno
	}{
		{0, of(1, 2), of(1, 3), of(5, 6), api.OK},
		{0, of(1, 6), of(1, 3), of(1, 2), api.OK},
		{0, of(1, 2), of(-1, 2), nought, api.OK},
		{0, whole(most), whole(one), none, api.ErrLarge},
		{0, whole(least), whole(most), ratio.Whole(-1), api.OK},
		{0, whole(least), nought, whole(least), api.OK},
		// Twice the lesser one is the greatest number of that sign.
		{0, whole(wide.Int{3: 3 << 62}), whole(wide.Int{3: 3 << 62}), whole(least), api.OK},
		// What is reckoned on the way doesn't fit, though the sum would.
		{0, whole(half), of(-1, 2), none, api.ErrLarge},
		{0, ratio.Ratio{Num: one, Den: root}, ratio.Ratio{Num: one, Den: root}, none, api.ErrLarge},
		{0, nought, ratio.Ratio{Num: one, Den: most}, ratio.Ratio{Num: one, Den: most}, api.OK},
		{0, whole(most), ratio.Ratio{Num: wide.Of(-1), Den: wide.Of(2)}, none, api.ErrLarge},
		{1, whole(least), whole(least), nought, api.OK},
		{1, nought, whole(least), none, api.ErrLarge},
		{1, ratio.Whole(-1), whole(least), whole(most), api.OK},
		{1, ratio.Ratio{Num: one, Den: root}, ratio.Ratio{Num: one, Den: root}, none, api.ErrLarge},
		{1, of(1, 2), of(1, 2), nought, api.OK},
		{2, whole(half), ratio.Whole(2), none, api.ErrLarge},
		{2, whole(half), ratio.Whole(-2), whole(least), api.OK},
		{2, whole(most), nought, nought, api.OK},
		{2, of(2, 3), of(3, 2), ratio.Whole(1), api.OK},
		// The Nums' product doesn't fit, though reduced it would.
		{2, whole(root), ratio.Ratio{Num: root, Den: wide.Of(3)}, none, api.ErrLarge},
		{2, whole(half), ratio.Ratio{Num: wide.Of(3), Den: half}, none, api.ErrLarge},
		{2, ratio.Ratio{Num: one, Den: root}, ratio.Ratio{Num: one, Den: root}, none, api.ErrLarge},
		{2, nought, ratio.Ratio{Num: one, Den: most}, nought, api.OK},
		{3, of(1, 2), of(-3, 4), of(-2, 3), api.OK},
		{3, nought, nought, none, api.ErrZero},
		{3, whole(least), nought, none, api.ErrZero},
		{3, ratio.Ratio{Num: least, Den: most}, nought, none, api.ErrZero},
		{3, nought, of(-5, 3), nought, api.OK},
		{3, whole(most), whole(most), ratio.Whole(1), api.OK},
		// The Den doesn't fit below 0, nor does what divides both.
		{3, ratio.Whole(1), whole(least), none, api.ErrLarge},
		{3, whole(least), whole(least), none, api.ErrLarge},
		{3, nought, whole(least), none, api.ErrLarge},
		{3, whole(least), ratio.Whole(-1), none, api.ErrLarge},
		{3, ratio.Whole(2), whole(least), ratio.Ratio{Num: wide.Of(-1), Den: half}, api.OK},
		{3, whole(least), ratio.Whole(-2), whole(half), api.OK},
		{3, whole(root), ratio.Ratio{Num: one, Den: root}, none, api.ErrLarge},
		{3, ratio.Ratio{Num: one, Den: root}, whole(root), none, api.ErrLarge},
	} {
		if got, e := calls[c.call].do(c.a, c.b); got != c.want || e != c.e {
			t.Errorf("%s(%s, %s) = %v, %d", calls[c.call].name, ratio.Text(c.a), ratio.Text(c.b), got, e)
		}
	}
}

// Promise 4.3: Floor, Text.

func TestFloorAndText(t *testing.T) {
	all := fractions(numbers())
	for _, bits := range []int{20, 64, 255} {
		all = append(all, fractions(mixed(400, bits))...)
	}
	for _, a := range all {
		n, d := number(a.Num), number(a.Den)
		// The library's Div goes down to the lesser number for a d above 0.
		if got, want := ratio.Floor(a), new(big.Int).Div(n, d); number(got).Cmp(want) != 0 {
			t.Errorf("Floor(%v/%v) = %s", n, d, wide.Text(got))
		}
		if got, want := ratio.Text(a), rat(a).RatString(); got != want {
			t.Errorf("Text(%v/%v) = %q", n, d, got)
		}
	}
}

func TestFloorAndTextAtTheEnds(t *testing.T) {
	for _, c := range []struct {
		a     ratio.Ratio
		floor wide.Int
		text  string
	}{
		{of(6, -4), wide.Of(-2), "-3/2"},
		{of(7, 2), wide.Of(3), "7/2"},
		{of(-8, 2), wide.Of(-4), "-4"},
		{of(0, -5), zero, "0"},
		{of(1, 3), zero, "1/3"},
		{of(-1, 3), wide.Of(-1), "-1/3"},
		{ratio.Ratio{Num: least, Den: one}, least, wide.Text(least)},
		{ratio.Ratio{Num: most, Den: one}, most, wide.Text(most)},
		{ratio.Ratio{Num: least, Den: most}, wide.Of(-2), wide.Text(least) + "/" + wide.Text(most)},
		{ratio.Ratio{Num: wide.Of(-1), Den: most}, wide.Of(-1), "-1/" + wide.Text(most)},
		{ratio.Ratio{Num: one, Den: most}, zero, "1/" + wide.Text(most)},
	} {
		if floor, text := ratio.Floor(c.a), ratio.Text(c.a); floor != c.floor || text != c.text {
			t.Errorf("%v: Floor %s, Text %s", c.a, wide.Text(floor), text)
		}
	}
}

// Promise 4.4: what holds.

func TestWhatIsAnsweredIsRight(t *testing.T) {
	for _, c := range calls {
		pairs(func(a, b ratio.Ratio) {
			got, e := c.do(a, b)
			if e == api.OK && !ratio.Right(got) || e != api.OK && got != (ratio.Ratio{}) {
				t.Fatalf("%s(%s, %s) = %v, %d", c.name, ratio.Text(a), ratio.Text(b), got, e)
			}
		})
	}
	for _, n := range numbers() {
		for _, d := range numbers() {
			if a, e := ratio.Make(n, d); e == api.OK && !ratio.Right(a) {
				t.Fatalf("Make(%s, %s) = %v", wide.Text(n), wide.Text(d), a)
			}
		}
	}
}

// undone tells whether both calls fit, the one undoing the other, and whether
// the end is the beginning.
func undone(k int, a, b ratio.Ratio) (fit, same bool) {
	c, e := calls[k].do(a, b)
	d, f := calls[k^1].do(c, b)
	return e == api.OK && f == api.OK, d == a
}

func TestBackAgain(t *testing.T) {
	count := 0
	pairs(func(a, b ratio.Ratio) {
		for k := range calls {
			if k > 1 && ratio.Sign(b) == 0 {
				continue
			}
			fit, same := undone(k, a, b)
			if fit && !same {
				t.Fatalf("%s of %s and %s can't be undone", calls[k].name, ratio.Text(a), ratio.Text(b))
			}
			if fit {
				count++
			}
		}
	})
	if count < 5000 {
		t.Errorf("only %d fitted", count)
	}
}

func TestBackAgainOfShortNumbers(t *testing.T) {
	all := fractions(mixed(40, 40))
	for _, a := range all {
		for _, b := range all {
			for k := range calls {
				if k > 1 && ratio.Sign(b) == 0 {
					continue
				}
				if fit, same := undone(k, a, b); !fit || !same {
					t.Fatalf("%s of %s and %s can't be undone", calls[k].name, ratio.Text(a), ratio.Text(b))
				}
			}
		}
	}
}
