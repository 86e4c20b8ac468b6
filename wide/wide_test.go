package wide_test

import (
	"math"
	"math/big"
	"slices"
	"testing"

	"croft/api"
	"croft/wide"
)

var (
	most  = wide.Int{math.MaxUint64, math.MaxUint64, math.MaxUint64, math.MaxInt64}
	least = wide.Int{3: 1 << 63}
)

// modulus is 2^256.
var modulus = new(big.Int).Lsh(big.NewInt(1), 256)

// number is a as a number without a bound.
func number(a wide.Int) *big.Int {
	out := new(big.Int)
	for _, w := range slices.Backward(a[:]) {
		out.Lsh(out, 64)
		out.Or(out, new(big.Int).SetUint64(w))
	}
	if a[3]>>63 == 1 {
		out.Sub(out, modulus)
	}
	return out
}

// fits is the wide number that n is, if it is one.
func fits(n *big.Int) (wide.Int, bool) {
	low := new(big.Int).Mod(n, modulus)
	var out wide.Int
	for i := range out {
		part := new(big.Int).Rsh(low, uint(64*i))
		out[i] = part.And(part, new(big.Int).SetUint64(math.MaxUint64)).Uint64()
	}
	return out, number(out).Cmp(n) == 0
}

// samples are 0, the numbers around each sixteenth power of two and around those
// where a word ends, and their opposites.
func samples() []wide.Int {
	out := []wide.Int{
		{}, most, least, {1, 0, 0, 1 << 63}, {math.MaxUint64 - 1, math.MaxUint64, math.MaxUint64, math.MaxInt64},
		{0x0123456789abcdef, 0xfedcba9876543210, 0xdeadbeefcafebabe, 0x0f1e2d3c4b5a6978},
		{0x0123456789abcdef, 0xfedcba9876543210, 0xdeadbeefcafebabe, 0xff1e2d3c4b5a6978},
		{math.MaxUint64, 0, math.MaxUint64, 0}, {0, math.MaxUint64, 0, math.MaxUint64},
		{math.MaxUint32, math.MaxUint32 << 32}, {math.MaxUint32 << 32, math.MaxUint32},
	}
	for k := range 256 {
		if k%16 != 0 && k%64 != 1 && k%64 != 63 {
			continue
		}
		for d := int64(-1); d <= 1; d++ {
			p := new(big.Int).Lsh(big.NewInt(1), uint(k))
			p.Add(p, big.NewInt(d))
			for range 2 {
				if a, ok := fits(p); ok {
					out = append(out, a)
				}
				p.Neg(p)
			}
		}
	}
	return out
}

// mixed are numbers of all lengths, whose bits follow one another without a
// pattern.
func mixed(count int) []wide.Int {
	state := uint64(1)
	next := func() uint64 {
		state = state*6364136223846793005 + 1442695040888963407
		return state ^ state>>29
	}
	out := make([]wide.Int, count)
	for i := range out {
		out[i] = wide.Shr(wide.Int{next(), next(), next(), next()}, int(next()>>8%256))
	}
	return out
}

// pairs calls do for all pairs of samples, and for neighbours of the mixed.
func pairs(do func(a, b wide.Int)) {
	for _, a := range samples() {
		for _, b := range samples() {
			do(a, b)
		}
	}
	m := mixed(20000)
	for i := range m[1:] {
		do(m[i], m[i+1])
	}
}

// sameAs holds an answer against what the same sum gives without a bound.
func sameAs(t *testing.T, call string, a, b, got wide.Int, e api.Errno, want *big.Int) {
	t.Helper()
	w, ok := fits(want)
	switch {
	case ok && (got != w || e != api.OK):
		t.Fatalf("%s(%v, %v) = %v, %d, not %v", call, number(a), number(b), number(got), e, want)
	case !ok && (got != wide.Int{} || e != api.ErrLarge):
		t.Fatalf("%s(%v, %v) = %v, %d, not 0, ErrLarge", call, number(a), number(b), number(got), e)
	}
}

// Promise 3.1: Of, Small, Sign, Cmp.

func TestOfAndSmallGoBackAndForth(t *testing.T) {
	for _, n := range []int64{0, 1, -1, 2, -2, 255, math.MaxInt32, math.MinInt32, 1 << 32, -1 << 32, math.MaxInt64, math.MinInt64, math.MaxInt64 - 1, math.MinInt64 + 1} {
		a := wide.Of(n)
		if number(a).Cmp(big.NewInt(n)) != 0 {
			t.Errorf("Of(%d) = %v", n, a)
		}
		if m, ok := wide.Small(a); m != n || !ok {
			t.Errorf("Small(Of(%d)) = %d, %t", n, m, ok)
		}
	}
}

func TestOfTellsItsWords(t *testing.T) {
	if a := wide.Of(5); a != (wide.Int{5}) {
		t.Errorf("Of(5) = %v", a)
	}
	const ones = math.MaxUint64
	if a := wide.Of(-1); a != (wide.Int{ones, ones, ones, ones}) {
		t.Errorf("Of(-1) = %v", a)
	}
	if a := wide.Of(math.MinInt64); a != (wide.Int{1 << 63, ones, ones, ones}) {
		t.Errorf("Of(least int64) = %v", a)
	}
}

func TestSmallOfWhatIsNoInt64(t *testing.T) {
	const ones = math.MaxUint64
	for _, a := range []wide.Int{
		{1 << 63}, {ones}, {0, 1}, {7, 0, 1}, {7, 0, 0, 1}, most, least,
		{1<<63 - 1, ones, ones, ones}, {ones, 0, ones, ones}, {ones, ones, 0, ones}, {ones, ones, ones, 0}, {5, ones, ones, 1 << 63},
	} {
		if n, ok := wide.Small(a); n != 0 || ok {
			t.Errorf("Small(%v) = %d, %t", number(a), n, ok)
		}
	}
}

func TestSmallOfAllSamples(t *testing.T) {
	for _, a := range append(samples(), mixed(5000)...) {
		n, ok := wide.Small(a)
		if want := number(a); ok != want.IsInt64() || ok && n != want.Int64() || !ok && n != 0 {
			t.Errorf("Small(%v) = %d, %t", want, n, ok)
		}
	}
}

func TestSign(t *testing.T) {
	for _, a := range append(samples(), mixed(5000)...) {
		if got, want := wide.Sign(a), number(a).Sign(); got != want {
			t.Errorf("Sign(%v) = %d", number(a), got)
		}
	}
}

func TestCmp(t *testing.T) {
	pairs(func(a, b wide.Int) {
		if got, want := wide.Cmp(a, b), number(a).Cmp(number(b)); got != want {
			t.Fatalf("Cmp(%v, %v) = %d", number(a), number(b), got)
		}
	})
}

// Promise 3.2: Neg, Add, Sub, Mul, Div, Gcd.

func TestNeg(t *testing.T) {
	for _, a := range append(samples(), mixed(5000)...) {
		got, e := wide.Neg(a)
		sameAs(t, "Neg", a, a, got, e, new(big.Int).Neg(number(a)))
	}
}

func TestAdd(t *testing.T) {
	pairs(func(a, b wide.Int) {
		got, e := wide.Add(a, b)
		sameAs(t, "Add", a, b, got, e, new(big.Int).Add(number(a), number(b)))
	})
}

func TestSub(t *testing.T) {
	pairs(func(a, b wide.Int) {
		got, e := wide.Sub(a, b)
		sameAs(t, "Sub", a, b, got, e, new(big.Int).Sub(number(a), number(b)))
	})
}

func TestMul(t *testing.T) {
	pairs(func(a, b wide.Int) {
		got, e := wide.Mul(a, b)
		sameAs(t, "Mul", a, b, got, e, new(big.Int).Mul(number(a), number(b)))
	})
}

func TestDiv(t *testing.T) {
	pairs(func(a, b wide.Int) {
		q, r, e := wide.Div(a, b)
		if b == (wide.Int{}) {
			if q != b || r != b || e != api.ErrZero {
				t.Fatalf("Div(%v, 0) = %v, %v, %d", number(a), q, r, e)
			}
			return
		}
		wantQ, wantR := new(big.Int).QuoRem(number(a), number(b), new(big.Int))
		sameAs(t, "Div", a, b, q, e, wantQ)
		if e == api.OK && number(r).Cmp(wantR) != 0 || e != api.OK && r != (wide.Int{}) {
			t.Fatalf("Div(%v, %v) leaves %v, %d, not %v", number(a), number(b), number(r), e, wantR)
		}
	})
}

func TestDivAtTheEnds(t *testing.T) {
	zero, minus := wide.Int{}, wide.Of(-1)
	for _, c := range []struct {
		a, b, q, r wide.Int
		e          api.Errno
	}{
		{zero, zero, zero, zero, api.ErrZero},
		{least, zero, zero, zero, api.ErrZero},
		{least, minus, zero, zero, api.ErrLarge},
		{least, wide.Of(1), least, zero, api.OK},
		{least, least, wide.Of(1), zero, api.OK},
		{most, least, zero, most, api.OK},
		{least, most, minus, minus, api.OK},
		{zero, least, zero, zero, api.OK},
		{wide.Of(-7), wide.Of(2), wide.Of(-3), minus, api.OK},
		{wide.Of(7), wide.Of(-2), wide.Of(-3), wide.Of(1), api.OK},
		{wide.Of(-7), wide.Of(-2), wide.Of(3), minus, api.OK},
		{wide.Of(-6), wide.Of(2), wide.Of(-3), zero, api.OK},
	} {
		if q, r, e := wide.Div(c.a, c.b); q != c.q || r != c.r || e != c.e {
			t.Errorf("Div(%v, %v) = %v, %v, %d", number(c.a), number(c.b), number(q), number(r), e)
		}
	}
}

func TestGcd(t *testing.T) {
	pairs(func(a, b wide.Int) {
		m, n := new(big.Int).Abs(number(a)), new(big.Int).Abs(number(b))
		got, e := wide.Gcd(a, b)
		sameAs(t, "Gcd", a, b, got, e, new(big.Int).GCD(nil, nil, m, n))
	})
}

func TestGcdOfMultiples(t *testing.T) {
	m := mixed(600)
	for i := 0; i < len(m); i += 3 {
		f, a, b := wide.Shr(m[i], 160), wide.Shr(m[i+1], 160), wide.Shr(m[i+2], 160)
		fa, _ := wide.Mul(f, a)
		fb, _ := wide.Mul(f, b)
		want := new(big.Int).GCD(nil, nil, new(big.Int).Abs(number(fa)), new(big.Int).Abs(number(fb)))
		got, e := wide.Gcd(fa, fb)
		sameAs(t, "Gcd", fa, fb, got, e, want)
	}
}

func TestGcdAtTheEnds(t *testing.T) {
	half := wide.Int{3: 1 << 62}
	for _, c := range []struct {
		a, b, want wide.Int
		e          api.Errno
	}{
		{wide.Int{}, wide.Int{}, wide.Int{}, api.OK},
		{least, wide.Int{}, wide.Int{}, api.ErrLarge},
		{wide.Int{}, least, wide.Int{}, api.ErrLarge},
		{least, least, wide.Int{}, api.ErrLarge},
		{least, half, half, api.OK},
		{half, least, half, api.OK},
		{least, most, wide.Of(1), api.OK},
		{most, wide.Int{}, most, api.OK},
		{wide.Of(-12), wide.Of(18), wide.Of(6), api.OK},
		{wide.Of(-12), wide.Of(-18), wide.Of(6), api.OK},
	} {
		if got, e := wide.Gcd(c.a, c.b); got != c.want || e != c.e {
			t.Errorf("Gcd(%v, %v) = %v, %d", number(c.a), number(c.b), number(got), e)
		}
	}
}

// Promise 3.3: Shl, Shr.

// shifts are all shifts that move something within a number, some beyond, and
// wrong ones.
func shifts() []int {
	out := []int{-1, -2, -64, math.MinInt, math.MinInt32, 1000, 1 << 20, 1 << 32, math.MaxInt32, math.MaxInt - 1, math.MaxInt}
	for n := range 330 {
		out = append(out, n)
	}
	return out
}

func TestShl(t *testing.T) {
	for _, a := range append(samples(), mixed(200)...) {
		for _, n := range shifts() {
			got, e := wide.Shl(a, n)
			if n < 0 {
				if got != (wide.Int{}) || e != api.ErrArg {
					t.Fatalf("Shl(%v, %d) = %v, %d", number(a), n, number(got), e)
				}
				continue
			}
			// Beyond 300 places, nothing but 0 fits: 2^300 stands for all more.
			want := new(big.Int).Lsh(number(a), uint(min(n, 300)))
			sameAs(t, "Shl", a, wide.Of(int64(n)), got, e, want)
		}
	}
}

func TestShr(t *testing.T) {
	for _, a := range append(samples(), mixed(200)...) {
		for _, n := range shifts() {
			// The library's Rsh goes down to the lesser number, as ours does.
			want := new(big.Int).Rsh(number(a), uint(max(0, min(n, 300))))
			if got := wide.Shr(a, n); number(got).Cmp(want) != 0 {
				t.Fatalf("Shr(%v, %d) = %v, not %v", number(a), n, number(got), want)
			}
		}
	}
}

func TestShiftsAtTheEnds(t *testing.T) {
	if got, e := wide.Shl(wide.Of(-1), 255); got != least || e != api.OK {
		t.Errorf("Shl(-1, 255) = %v, %d", number(got), e)
	}
	if got, e := wide.Shl(wide.Of(1), 255); got != (wide.Int{}) || e != api.ErrLarge {
		t.Errorf("Shl(1, 255) = %v, %d", number(got), e)
	}
	if got, e := wide.Shl(wide.Int{}, math.MaxInt); got != (wide.Int{}) || e != api.OK {
		t.Errorf("Shl(0, greatest) = %v, %d", number(got), e)
	}
	if got := wide.Shr(wide.Of(-7), 1); got != wide.Of(-4) {
		t.Errorf("Shr(-7, 1) = %v", number(got))
	}
	if got := wide.Shr(least, math.MinInt); got != least {
		t.Errorf("Shr(least, least) = %v", number(got))
	}
}

// Promise 3.4: Above, Text.

func TestAbove(t *testing.T) {
	all := append(mixed(300), samples()...)
	n := len(all)
	for i := range 40000 {
		a, b, c, d := all[i%n], all[i/3%n], all[(i*7+i/n)%n], all[(i*11+i/5)%n]
		for _, g := range [][4]wide.Int{{a, b, c, d}, {a, b, b, a}, {a, b, a, d}} {
			left := new(big.Int).Mul(number(g[0]), number(g[1]))
			right := new(big.Int).Mul(number(g[2]), number(g[3]))
			if got, want := wide.Above(g[0], g[1], g[2], g[3]), left.Cmp(right); got != want {
				t.Fatalf("Above of %v and %v = %d", left, right, got)
			}
		}
	}
}

func TestAboveOfProductsThatDontFit(t *testing.T) {
	nearly := wide.Int{1, 0, 0, 1 << 63}
	for _, c := range []struct {
		a, b, c, d wide.Int
		want       int
	}{
		{least, least, most, most, 1},
		{most, most, least, least, -1},
		{least, most, most, least, 0},
		{least, most, most, nearly, -1},
		{most, nearly, nearly, most, 0},
		{nearly, nearly, most, most, 0},
		{least, least, least, most, 1},
		{least, most, wide.Int{}, least, -1},
		{wide.Int{}, least, most, wide.Int{}, 0},
		{wide.Of(2), wide.Of(6), wide.Of(3), wide.Of(4), 0},
		{wide.Of(-2), wide.Of(6), wide.Of(3), wide.Of(-5), 1},
	} {
		if got := wide.Above(c.a, c.b, c.c, c.d); got != c.want {
			t.Errorf("Above(%v, %v, %v, %v) = %d", number(c.a), number(c.b), number(c.c), number(c.d), got)
		}
	}
}

func TestText(t *testing.T) {
	for _, a := range append(samples(), mixed(5000)...) {
		if got, want := wide.Text(a), number(a).String(); got != want {
			t.Errorf("Text = %q, not %q", got, want)
		}
	}
	// Noughts within a number are told as well.
	ten := wide.Of(1)
	for k := range 77 {
		for d := int64(-1); d <= 1; d++ {
			a, _ := wide.Add(ten, wide.Of(d))
			if got, want := wide.Text(a), number(a).String(); got != want {
				t.Errorf("Text of 10^%d%+d = %q", k, d, got)
			}
		}
		ten, _ = wide.Mul(ten, wide.Of(10))
	}
	if got := wide.Text(wide.Int{0, 1}); got != "18446744073709551616" {
		t.Errorf("Text of 2^64 = %q", got)
	}
}

// Promise 3.5: what holds.

func TestSumsAndProductsDontHangOnTheOrder(t *testing.T) {
	m := append(mixed(9000), samples()...)
	for i := range m[2:] {
		a, b, c := m[i], m[i+1], m[i+2]
		one, e := wide.Add(a, b)
		if two, f := wide.Add(b, a); one != two || e != f {
			t.Fatalf("Add(%v, %v) hangs on the order", a, b)
		}
		one, e = wide.Mul(a, b)
		if two, f := wide.Mul(b, a); one != two || e != f {
			t.Fatalf("Mul(%v, %v) hangs on the order", a, b)
		}
		a, b, c = wide.Shr(a, 175), wide.Shr(b, 175), wide.Shr(c, 175)
		for _, call := range []func(a, b wide.Int) (wide.Int, api.Errno){wide.Add, wide.Mul} {
			ab, _ := call(a, b)
			bc, _ := call(b, c)
			one, e := call(ab, c)
			two, f := call(a, bc)
			if one != two || e != api.OK || f != api.OK {
				t.Fatalf("%v, %v, %v hang on the order", a, b, c)
			}
		}
	}
}

func TestWhatHoldsOfPairs(t *testing.T) {
	pairs(func(a, b wide.Int) {
		if q, r, e := wide.Div(a, b); e == api.OK {
			p, e := wide.Mul(q, b)
			back, f := wide.Add(p, r)
			if e != api.OK || f != api.OK || back != a {
				t.Fatalf("q b + r isn't a: %v, %v", number(a), number(b))
			}
		}
		g, e := wide.Gcd(a, b)
		if e != api.OK || wide.Sign(g) == 0 {
			return
		}
		for _, n := range []wide.Int{a, b} {
			if _, r, e := wide.Div(n, g); r != (wide.Int{}) || e != api.OK {
				t.Fatalf("Gcd(%v, %v) = %v doesn't divide", number(a), number(b), number(g))
			}
		}
	})
}

func TestShiftedUpAndDownAgain(t *testing.T) {
	for _, a := range append(samples(), mixed(500)...) {
		for n := range 256 {
			if moved, e := wide.Shl(a, n); e == api.OK && wide.Shr(moved, n) != a {
				t.Fatalf("%v isn't as it was, %d up and down", number(a), n)
			}
		}
	}
}
