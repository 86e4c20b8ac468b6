package geom_test

import (
	"cmp"
	"math"
	"math/big"
	"testing"

	"croft/api"
	"croft/geom"
	"croft/ratio"
	"croft/wide"
)

const far = api.Max

func at(x, y int) api.Point { return api.Point{X: x, Y: y} }

// grid are all points whose coordinates are both among these.
func grid(coordinates ...int) []api.Point {
	var out []api.Point
	for _, x := range coordinates {
		for _, y := range coordinates {
			out = append(out, at(x, y))
		}
	}
	return out
}

// grids are points near one another, and points at the ends of the range.
func grids() [][]api.Point {
	return [][]api.Point{grid(0, 1, 2, 3), grid(-far, -far+1, 1, far), grid(-far, 0, far-1, far)}
}

// threesOf calls do for all threes of the points.
func threesOf(points []api.Point, do func(a, b, c api.Point)) {
	for _, a := range points {
		for _, b := range points {
			for _, c := range points {
				do(a, b, c)
			}
		}
	}
}

// foursOf calls do for all fours of the points.
func foursOf(points []api.Point, do func(a, b, c, d api.Point)) {
	for _, a := range points {
		threesOf(points, func(b, c, d api.Point) { do(a, b, c, d) })
	}
}

// threes calls do for all threes of each grid, and for all pairs of directions
// as seen from some points.
func threes(do func(a, b, c api.Point)) {
	for _, points := range grids() {
		threesOf(points, do)
	}
	for _, a := range []api.Point{at(0, 0), at(far, far), at(-far, 1)} {
		for _, b := range directions() {
			for _, c := range directions() {
				do(a, b, c)
			}
		}
	}
}

// fours calls do for all fours of each grid.
func fours(do func(a, b, c, d api.Point)) {
	for _, points := range grids() {
		foursOf(points, do)
	}
}

// tooFar are points that aren't in range, some of them just so.
func tooFar() []api.Point {
	out := []api.Point{at(math.MaxInt, math.MinInt)}
	for _, n := range []int{far + 1, -far - 1, math.MaxInt, math.MinInt} {
		out = append(out, at(n, 0), at(0, n), at(n, n), at(far, n), at(n, -far))
	}
	return out
}

// directions are points as seen from 0,0: in order, no two in one direction.
func directions() []api.Point {
	return []api.Point{
		at(1, 0), at(far, 1), at(far-1, 1), at(far, 2), at(2, 1), at(far, far-1), at(1, 1), at(far-1, far), at(1, far),
		at(0, 3), at(-1, far), at(-far+1, far), at(-7, 7), at(-far, far-1), at(-2, 1), at(-far+1, 1), at(-far, 1),
		at(-5, 0), at(-far, -1), at(-far+1, -1), at(-2, -1), at(-far, -far+1), at(-far, -far), at(-far+1, -far), at(-1, -far),
		at(0, -1), at(1, -far), at(far-1, -far), at(4, -4), at(far, -far+1), at(far-1, -1), at(far, -1),
	}
}

// cross is above 0, if who goes from a to b sees who goes from c to d turn to
// the left.
func cross(a, b, c, d api.Point) *big.Int {
	gap := func(m, n int) *big.Int { return new(big.Int).Sub(big.NewInt(int64(n)), big.NewInt(int64(m))) }
	left, right := gap(a.X, b.X), gap(a.Y, b.Y)
	left.Mul(left, gap(c.Y, d.Y))
	return left.Sub(left, right.Mul(right, gap(c.X, d.X)))
}

// along is which part of the way from a to b is gone at p, which is on the
// straight line through both.
func along(p, a, b api.Point) *big.Rat {
	if a.X != b.X {
		return big.NewRat(int64(p.X-a.X), int64(b.X-a.X))
	}
	return big.NewRat(int64(p.Y-a.Y), int64(b.Y-a.Y))
}

var nought, whole = big.NewRat(0, 1), big.NewRat(1, 1)

// within tells whether n through d is from 0 to 1.
func within(n, d *big.Int) bool {
	r := new(big.Rat).SetFrac(n, d)
	return r.Cmp(nought) >= 0 && r.Cmp(whole) <= 0
}

// meet is what Meet must tell of points in range.
func meet(a, b, c, d api.Point) bool {
	if a == b || c == d {
		return false
	}
	if both := cross(a, b, c, d); both.Sign() != 0 {
		// The straight lines have one point in common. If it is an end of both
		// lines, these have that end in common.
		share := a == c || a == d || b == c || b == d
		return !share && within(cross(a, c, c, d), both) && within(cross(a, b, c, a), both)
	}
	if cross(a, b, a, c).Sign() != 0 {
		return false
	}
	low, high := along(c, a, b), along(d, a, b)
	if low.Cmp(high) > 0 {
		low, high = high, low
	}
	if low.Cmp(nought) < 0 {
		low = nought
	}
	if high.Cmp(whole) > 0 {
		high = whole
	}
	// What both have in common has a length, or is an end of both, or nothing.
	return low.Cmp(high) < 0
}

// Promise 5.1: In, Less, Turn.

func TestIn(t *testing.T) {
	inside := append(grid(-far, -far+1, -1, 0, 1, far-1, far), directions()...)
	for _, p := range inside {
		if !geom.In(p) {
			t.Errorf("%v isn't in range", p)
		}
	}
	for _, p := range tooFar() {
		if geom.In(p) {
			t.Errorf("%v is in range", p)
		}
	}
}

func TestLess(t *testing.T) {
	all := append(tooFar(), grid(-far, -1, 0, 1, 2, far)...)
	for _, a := range all {
		for _, b := range all {
			want := cmp.Or(cmp.Compare(a.X, b.X), cmp.Compare(a.Y, b.Y)) < 0
			if got := geom.Less(a, b); got != want {
				t.Errorf("Less(%v, %v) = %t", a, b, got)
			}
		}
	}
}

func TestTurn(t *testing.T) {
	threes(func(a, b, c api.Point) {
		if got, want := geom.Turn(a, b, c), cross(a, b, a, c).Sign(); got != want {
			t.Fatalf("Turn(%v, %v, %v) = %d", a, b, c, got)
		}
	})
}

func TestTurnOfChosenPoints(t *testing.T) {
	for _, x := range []struct {
		a, b, c api.Point
		want    int
	}{
		{at(0, 0), at(4, 0), at(1, 3), 1},
		{at(0, 0), at(4, 0), at(1, -3), -1},
		{at(0, 0), at(4, 0), at(9, 0), 0},
		{at(0, 0), at(4, 2), at(-2, -1), 0},
		{at(3, 3), at(3, 3), at(7, 1), 0},
		{at(3, 3), at(7, 1), at(3, 3), 0},
		{at(-far, -far), at(far, far), at(far-1, far), 1},
		{at(-far, -far), at(far, far), at(far, far-1), -1},
		{at(-far, -far), at(far, far), at(0, 0), 0},
		{at(-far, -far), at(far, far-1), at(0, 0), 1},
		{at(-far, -far), at(far, far-1), at(0, -1), -1},
		{at(-far, far), at(-far, -far), at(far, far), 1},
		{at(far, -far), at(far, far), at(-far, 0), 1},
	} {
		if got := geom.Turn(x.a, x.b, x.c); got != x.want {
			t.Errorf("Turn(%v, %v, %v) = %d", x.a, x.b, x.c, got)
		}
	}
}

func TestTurnTooFarOut(t *testing.T) {
	a, b := at(0, 0), at(4, 1)
	for _, p := range tooFar() {
		if x, y, z := geom.Turn(p, a, b), geom.Turn(a, p, b), geom.Turn(a, b, p); x != 0 || y != 0 || z != 0 {
			t.Errorf("Turn with %v = %d, %d, %d", p, x, y, z)
		}
	}
}

// Promise 5.2: On, Meet.

func TestOn(t *testing.T) {
	threes(func(p, a, b api.Point) {
		want := false
		if a != b && cross(a, b, a, p).Sign() == 0 {
			r := along(p, a, b)
			want = r.Cmp(nought) > 0 && r.Cmp(whole) < 0
		}
		if got := geom.On(p, a, b); got != want {
			t.Fatalf("On(%v, %v, %v) = %t", p, a, b, got)
		}
	})
}

func TestOnOfChosenPoints(t *testing.T) {
	for _, x := range []struct {
		p, a, b api.Point
		want    bool
	}{
		{at(2, 1), at(0, 0), at(4, 2), true},
		{at(2, 1), at(4, 2), at(0, 0), true},
		{at(0, 0), at(0, 0), at(4, 2), false},
		{at(4, 2), at(0, 0), at(4, 2), false},
		{at(6, 3), at(0, 0), at(4, 2), false},
		{at(-2, -1), at(0, 0), at(4, 2), false},
		{at(2, 2), at(0, 0), at(4, 2), false},
		{at(0, 1), at(0, 3), at(0, 0), true},
		{at(0, 4), at(0, 3), at(0, 0), false},
		{at(1, 5), at(0, 5), at(2, 5), true},
		{at(1, 1), at(1, 1), at(1, 1), false},
		{at(2, 1), at(1, 1), at(1, 1), false},
		{at(0, 0), at(-far, -far), at(far, far), true},
		{at(0, 0), at(-far, -far), at(far, far-1), false},
		{at(far-1, far-1), at(-far, -far), at(far, far), true},
		{at(far-1, far), at(-far, -far), at(far, far), false},
	} {
		if got := geom.On(x.p, x.a, x.b); got != x.want {
			t.Errorf("On(%v, %v, %v) = %t", x.p, x.a, x.b, got)
		}
	}
}

func TestOnTooFarOut(t *testing.T) {
	for _, x := range [][3]api.Point{
		{at(far+1, 0), at(far, 0), at(far+2, 0)},
		{at(far, 0), at(0, 0), at(far+1, 0)},
		{at(far, 0), at(far+1, 0), at(0, 0)},
		{at(0, -far), at(0, 0), at(0, -far-1)},
		{at(0, 0), at(-far-1, -far-1), at(far+1, far+1)},
		{at(0, 0), at(0, math.MinInt), at(0, math.MaxInt)},
		{at(2, far+1), at(0, 0), at(4, 2)},
		{at(2, math.MinInt), at(4, 2), at(0, 0)},
	} {
		if geom.On(x[0], x[1], x[2]) {
			t.Errorf("On%v", x)
		}
	}
	for _, p := range tooFar() {
		for _, a := range grid(-2, 0, 3) {
			for _, b := range grid(-2, 0, 3) {
				if geom.On(p, a, b) || geom.On(a, p, b) || geom.On(a, b, p) || geom.On(a, p, p) {
					t.Errorf("On with %v, %v and %v", p, a, b)
				}
			}
		}
	}
}

func TestMeet(t *testing.T) {
	fours(func(a, b, c, d api.Point) {
		if got, want := geom.Meet(a, b, c, d), meet(a, b, c, d); got != want {
			t.Fatalf("Meet(%v, %v, %v, %v) = %t", a, b, c, d, got)
		}
	})
}

func TestMeetOfChosenLines(t *testing.T) {
	for _, x := range []struct {
		what       string
		a, b, c, d api.Point
		want       bool
	}{
		{"across", at(0, 0), at(4, 4), at(0, 4), at(4, 0), true},
		{"end on end", at(0, 0), at(4, 4), at(4, 4), at(9, 0), false},
		{"end on inside", at(0, 0), at(4, 4), at(2, 2), at(9, 0), true},
		{"end on inside, the other way", at(2, 2), at(9, 0), at(4, 4), at(0, 0), true},
		{"the same", at(0, 0), at(4, 0), at(0, 0), at(4, 0), true},
		{"the same, turned", at(0, 0), at(4, 0), at(4, 0), at(0, 0), true},
		{"a part with an end in common", at(0, 0), at(4, 0), at(4, 0), at(2, 0), true},
		{"a part", at(0, 0), at(4, 0), at(1, 0), at(2, 0), true},
		{"beyond", at(0, 0), at(4, 0), at(3, 0), at(9, 0), true},
		{"one behind the other", at(0, 0), at(4, 0), at(4, 0), at(9, 0), false},
		{"apart on one straight line", at(0, 0), at(4, 0), at(5, 0), at(9, 0), false},
		{"beside", at(0, 0), at(4, 0), at(0, 1), at(4, 1), false},
		{"short of it", at(0, 0), at(4, 4), at(3, 1), at(9, 0), false},
		{"a point on it", at(0, 0), at(4, 0), at(2, 0), at(2, 0), false},
		{"a point for the first", at(2, 0), at(2, 0), at(0, 0), at(4, 0), false},
		{"the same point", at(2, 0), at(2, 0), at(2, 0), at(2, 0), false},
		{"far across", at(-far, -far), at(far, far), at(-far, far), at(far, -far), true},
		{"far, just past the end", at(-far, -far), at(far, far-1), at(far-1, far), at(far, far), false},
		{"far, just across", at(-far, -far), at(far, far-1), at(0, 0), at(0, -1), true},
		{"far, just short", at(-far, -far), at(far, far-1), at(0, 0), at(0, 1), false},
	} {
		if got := geom.Meet(x.a, x.b, x.c, x.d); got != x.want {
			t.Errorf("Meet %s = %t", x.what, got)
		}
	}
}

func TestMeetTooFarOut(t *testing.T) {
	a, b, c, d := at(-4, -4), at(4, 4), at(-4, 4), at(4, -4)
	if !geom.Meet(a, b, c, d) {
		t.Errorf("they don't meet")
	}
	for _, p := range tooFar() {
		if geom.Meet(p, b, c, d) || geom.Meet(a, p, c, d) || geom.Meet(a, b, p, d) || geom.Meet(a, b, c, p) || geom.Meet(a, p, a, p) {
			t.Errorf("Meet with %v", p)
		}
	}
	// Here all but the range would tell that they meet.
	e := far + 1
	if geom.Meet(at(-e, 0), at(4, 0), c, d) || geom.Meet(at(0, 0), at(e, 0), at(far, 0), at(far, 9)) || geom.Meet(c, d, at(e, e), at(-1, -1)) {
		t.Errorf("Meet beyond the range")
	}
}

// Promise 5.3: Around.

func TestAroundInOrder(t *testing.T) {
	list := directions()
	for i, a := range list {
		for j, b := range list {
			if got, want := geom.Around(at(0, 0), a, b), cmp.Compare(i, j); got != want {
				t.Errorf("Around(0, %v, %v) = %d", a, b, got)
			}
		}
	}
}

func TestAroundAsAngles(t *testing.T) {
	angle := func(o, p api.Point) float64 {
		out := math.Atan2(float64(p.Y-o.Y), float64(p.X-o.X))
		if out < 0 {
			out += 2 * math.Pi
		}
		return out
	}
	points := grid(0, 1, 2, 3, 4, 5, 6)
	for _, o := range []api.Point{at(3, 3), at(0, 0), at(6, 2), at(2, 6)} {
		for _, a := range points {
			for _, b := range points {
				want := 0
				// No two directions among these points are as near as this.
				if d := angle(o, a) - angle(o, b); a != o && b != o && math.Abs(d) > 1e-6 {
					want = cmp.Compare(d, 0)
				}
				if got := geom.Around(o, a, b); got != want {
					t.Fatalf("Around(%v, %v, %v) = %d", o, a, b, got)
				}
			}
		}
	}
}

func TestAroundOfOneDirection(t *testing.T) {
	for _, x := range [][3]api.Point{
		{at(0, 0), at(2, 4), at(1, 2)},
		{at(0, 0), at(1, 0), at(far, 0)},
		{at(0, 0), at(-1, 0), at(-far, 0)},
		{at(3, 3), at(3, -far), at(3, 2)},
		{at(-far, -far), at(far, far), at(0, 0)},
		{at(far, far-1), at(-far, -far), at(-far, -far)},
	} {
		if got := geom.Around(x[0], x[1], x[2]); got != 0 {
			t.Errorf("Around%v = %d", x, got)
		}
	}
	for _, x := range [][3]api.Point{{at(0, 0), at(2, 4), at(-1, -2)}, {at(0, 0), at(1, 0), at(-1, 0)}, {at(0, 0), at(0, 1), at(0, -1)}} {
		if got, back := geom.Around(x[0], x[1], x[2]), geom.Around(x[0], x[2], x[1]); got != -1 || back != 1 {
			t.Errorf("of two opposite ones: Around%v = %d, turned %d", x, got, back)
		}
	}
}

func TestAroundOfNoDirection(t *testing.T) {
	o := at(5, 5)
	for _, p := range append(directions(), o) {
		if x, y := geom.Around(o, o, p), geom.Around(o, p, o); x != 0 || y != 0 {
			t.Errorf("from o to itself, and to %v: %d, %d", p, x, y)
		}
	}
	for _, p := range tooFar() {
		for _, q := range []api.Point{at(9, 5), at(9, 9), at(-9, 6), at(1, 1), at(2, -7)} {
			if x, y, z := geom.Around(o, p, q), geom.Around(o, q, p), geom.Around(p, o, q); x != 0 || y != 0 || z != 0 {
				t.Errorf("Around with %v and %v = %d, %d, %d", p, q, x, y, z)
			}
		}
	}
	// From here, these two are seen in different halves of the way around.
	for _, n := range []int{far + 1, -far - 1, math.MaxInt, math.MinInt} {
		if x, y := geom.Around(at(n, 0), at(1, 9), at(1, -9)), geom.Around(at(n, 0), at(1, -9), at(1, 9)); x != 0 || y != 0 {
			t.Errorf("Around from %d, 0 = %d, %d", n, x, y)
		}
	}
}

// Promise 5.4: At.

// number is a wide number as one without a bound.
func number(a wide.Int) *big.Int {
	out, _ := new(big.Int).SetString(wide.Text(a), 10)
	return out
}

// fit tells whether all numbers are from -2^255 to 2^255 - 1.
func fit(numbers ...*big.Int) bool {
	for _, n := range numbers {
		if n.Sign() < 0 {
			n = new(big.Int).Not(n)
		}
		if n.BitLen() > 255 {
			return false
		}
	}
	return true
}

// heightAt is the Y that At must answer, if all that it reckons on the way
// fits; low is the end with the lesser X.
func heightAt(low, high api.Point, x ratio.Ratio) (*big.Rat, bool) {
	times := func(a, b *big.Int) *big.Int { return new(big.Int).Mul(a, b) }
	n, d := number(x.Num), number(x.Den)
	start := times(big.NewInt(int64(low.X)), d)
	gone := new(big.Int).Sub(n, start)
	ok := fit(start, gone)
	way := new(big.Rat).SetFrac(gone, d)
	slope := big.NewRat(int64(high.Y-low.Y), int64(high.X-low.X))
	num, den := times(way.Num(), slope.Num()), times(way.Denom(), slope.Denom())
	ok = ok && fit(num, den)
	rise := new(big.Rat).SetFrac(num, den)
	base := times(big.NewInt(int64(low.Y)), rise.Denom())
	sum := new(big.Int).Add(rise.Num(), base)
	return new(big.Rat).SetFrac(sum, rise.Denom()), ok && fit(base, sum)
}

// checkAt holds At, of both ways along a line, against heightAt, and tells
// whether there was an answer.
func checkAt(t *testing.T, low, high api.Point, x ratio.Ratio) bool {
	t.Helper()
	want, ok := heightAt(low, high, x)
	for _, ends := range [][2]api.Point{{low, high}, {high, low}} {
		y, e := geom.At(ends[0], ends[1], x)
		switch {
		case !ok && (e != api.ErrLarge || y != ratio.Ratio{}):
			t.Fatalf("At(%v, %s) = %v, %d, not ErrLarge", ends, ratio.Text(x), y, e)
		case ok && (e != api.OK || !ratio.Right(y) || ratio.Text(y) != want.RatString()):
			t.Fatalf("At(%v, %s) = %s, %d, not %s", ends, ratio.Text(x), ratio.Text(y), e, want.RatString())
		}
	}
	return ok
}

// of is n through d, of numbers that fit.
func of(n, d wide.Int) ratio.Ratio {
	out, _ := ratio.Make(n, d)
	return out
}

func TestAt(t *testing.T) {
	points := append(grid(-3, -2, 0, 1, 4), grid(-far, -far+1, 7, far)...)
	for _, a := range points {
		for _, b := range points {
			if a.X >= b.X {
				continue
			}
			width := int64(b.X - a.X)
			for n := int64(0); n <= 6; n++ {
				// Sixths of the way, so both ends as well.
				checkAt(t, a, b, of(wide.Of(int64(a.X)*6+width*n), wide.Of(6)))
			}
		}
	}
}

func TestAtOfChosenLines(t *testing.T) {
	for _, x := range []struct {
		a, b api.Point
		x    ratio.Ratio
		want string
	}{
		{at(0, 0), at(4, 2), ratio.Whole(1), "1/2"},
		{at(4, 2), at(0, 0), ratio.Whole(1), "1/2"},
		{at(0, 0), at(4, 2), ratio.Whole(0), "0"},
		{at(0, 0), at(4, 2), ratio.Whole(4), "2"},
		{at(-3, 5), at(3, 5), of(wide.Of(1), wide.Of(7)), "5"},
		{at(0, 4), at(3, 0), of(wide.Of(1), wide.Of(2)), "10/3"},
		{at(-far, -far), at(far, far), of(wide.Of(-1), wide.Of(3)), "-1/3"},
		{at(-far, far), at(far, far-1), ratio.Whole(0), "536870911/2"},
		{at(-far, -far), at(far, far), ratio.Whole(far), "268435456"},
	} {
		if y, e := geom.At(x.a, x.b, x.x); ratio.Text(y) != x.want || e != api.OK {
			t.Errorf("At(%v, %v, %s) = %s, %d, not %s", x.a, x.b, ratio.Text(x.x), ratio.Text(y), e, x.want)
		}
	}
}

// TestAtOfLongFractions goes through fractions so long that not all that is
// reckoned fits.
func TestAtOfLongFractions(t *testing.T) {
	lines := [][2]api.Point{
		{at(0, 0), at(4, 2)}, {at(0, 0), at(4, 4)}, {at(0, 0), at(2, far)}, {at(0, 1), at(4, 5)}, {at(0, far), at(4, far)},
		{at(-1, 0), at(1, 1)}, {at(-4, 3), at(3, -2)}, {at(-far, -far), at(far, far-1)}, {at(-far, 0), at(far, 0)},
	}
	fitted, large := 0, 0
	for _, l := range lines {
		for k := 1; k < 255; k++ {
			power, _ := wide.Shl(wide.Of(1), k)
			for _, d := range []int64{-1, 0, 1} {
				den, _ := wide.Add(power, wide.Of(d))
				for _, n := range []wide.Int{wide.Of(1), wide.Of(3), wide.Shr(power, 1)} {
					x := of(n, den)
					if wide.Cmp(x.Num, x.Den) > 0 {
						continue
					}
					if checkAt(t, l[0], l[1], x) {
						fitted++
					} else {
						large++
					}
				}
			}
		}
	}
	if fitted < 1000 || large < 200 {
		t.Errorf("%d fitted, %d didn't", fitted, large)
	}
}

// TestAtTellsEachStepThatDoesntFit has a line for each of the three steps that
// can be refused, and beside it one that just fits.
func TestAtTellsEachStepThatDoesntFit(t *testing.T) {
	most := wide.Int{math.MaxUint64, math.MaxUint64, math.MaxUint64, math.MaxInt64}
	tiny := of(wide.Of(1), most)
	for _, x := range []struct {
		step string
		a, b api.Point
		e    api.Errno
	}{
		{"all", at(0, 0), at(5, 5), api.OK},
		{"Sub", at(-1, 0), at(5, 0), api.ErrLarge},
		{"Mul", at(0, 0), at(2, 1), api.ErrLarge},
		{"Add", at(0, 1), at(5, 6), api.ErrLarge},
		{"all of a level line at 1", at(0, 1), at(5, 1), api.OK},
		{"all at -1", at(0, -1), at(5, 4), api.OK},
	} {
		if y, e := geom.At(x.a, x.b, tiny); e != x.e || e != api.OK && y != (ratio.Ratio{}) {
			t.Errorf("%s: At(%v, %v) = %s, %d", x.step, x.a, x.b, ratio.Text(y), e)
		}
		checkAt(t, x.a, x.b, tiny)
	}
}

func TestAtRefuses(t *testing.T) {
	one, half := ratio.Whole(1), of(wide.Of(1), wide.Of(2))
	type question struct {
		a, b api.Point
		x    ratio.Ratio
	}
	list := []question{
		{at(4, 2), at(4, 0), ratio.Whole(4)},
		{at(4, 2), at(4, 2), ratio.Whole(4)},
		{at(0, 0), at(4, 2), ratio.Whole(-1)},
		{at(0, 0), at(4, 2), ratio.Whole(5)},
		{at(4, 2), at(0, 0), ratio.Whole(5)},
		{at(0, 0), at(4, 2), of(wide.Of(-1), wide.Int{3: 1 << 62})},
		{at(0, 0), at(4, 2), of(wide.Of(9), wide.Of(2))},
		{at(1, 0), at(2, 2), half},
		{at(0, 0), at(4, 2), ratio.Whole(math.MaxInt64)},
		{at(0, 0), at(4, 2), ratio.Ratio{Num: wide.Int{3: 1 << 63}, Den: wide.Of(1)}},
		{at(0, 0), at(4, 2), ratio.Ratio{}},
		{at(0, 0), at(4, 2), ratio.Ratio{Num: wide.Of(1)}},
		{at(0, 0), at(4, 2), ratio.Ratio{Num: wide.Of(2), Den: wide.Of(2)}},
		{at(0, 0), at(4, 2), ratio.Ratio{Num: wide.Of(0), Den: wide.Of(2)}},
		{at(0, 0), at(4, 2), ratio.Ratio{Num: wide.Of(-1), Den: wide.Of(-1)}},
		{at(0, 0), at(far+1, 0), one},
		{at(-far-1, 0), at(far, 0), one},
	}
	for _, p := range tooFar() {
		list = append(list, question{p, at(2, 2), one}, question{at(-2, 2), p, one}, question{p, p, one})
	}
	for _, q := range list {
		if y, e := geom.At(q.a, q.b, q.x); e != api.ErrArg || y != (ratio.Ratio{}) {
			t.Errorf("At(%v, %v, %v) = %v, %d", q.a, q.b, q.x, y, e)
		}
	}
}

// Promise 5.5: what holds.

// move puts points elsewhere; sign is what becomes of a turn to the left.
type move struct {
	name string
	to   func(p api.Point) api.Point
	sign int
}

// moves turn points around and mirror them: -far to far stays that.
func moves() []move {
	return []move{
		{"a quarter around", func(p api.Point) api.Point { return at(-p.Y, p.X) }, 1},
		{"half around", func(p api.Point) api.Point { return at(-p.X, -p.Y) }, 1},
		{"a quarter back", func(p api.Point) api.Point { return at(p.Y, -p.X) }, 1},
		{"mirrored, left to right", func(p api.Point) api.Point { return at(-p.X, p.Y) }, -1},
		{"mirrored, up to down", func(p api.Point) api.Point { return at(p.X, -p.Y) }, -1},
		{"mirrored, X to Y", func(p api.Point) api.Point { return at(p.Y, p.X) }, -1},
		{"mirrored, X to -Y", func(p api.Point) api.Point { return at(-p.Y, -p.X) }, -1},
	}
}

// shifts move points of 0 to 3 to all ends of the range.
func shifts() []move {
	var out []move
	for _, by := range grid(-far, -3, 0, far-3) {
		out = append(out, move{"moved", func(p api.Point) api.Point { return at(p.X+by.X, p.Y+by.Y) }, 1})
	}
	return out
}

func TestMovedPointsTurnAsTheyDid(t *testing.T) {
	try := func(m move, a, b, c api.Point) {
		if got, want := geom.Turn(m.to(a), m.to(b), m.to(c)), geom.Turn(a, b, c)*m.sign; got != want {
			t.Fatalf("%v, %v, %v, %s: Turn = %d", a, b, c, m.name, got)
		}
		if got, want := geom.On(m.to(a), m.to(b), m.to(c)), geom.On(a, b, c); got != want {
			t.Fatalf("%v, %v, %v, %s: On = %t", a, b, c, m.name, got)
		}
	}
	threes(func(a, b, c api.Point) {
		for _, m := range moves() {
			try(m, a, b, c)
		}
	})
	for _, m := range shifts() {
		threesOf(grid(0, 1, 2, 3), func(a, b, c api.Point) {
			try(m, a, b, c)
			if got, want := geom.Around(m.to(a), m.to(b), m.to(c)), geom.Around(a, b, c); got != want {
				t.Fatalf("%v, %v, %v, moved: Around = %d", a, b, c, got)
			}
		})
	}
}

func TestMovedLinesMeetAsTheyDid(t *testing.T) {
	try := func(m move, a, b, c, d api.Point) {
		if got, want := geom.Meet(m.to(a), m.to(b), m.to(c), m.to(d)), geom.Meet(a, b, c, d); got != want {
			t.Fatalf("%v, %v, %v, %v, %s: Meet = %t", a, b, c, d, m.name, got)
		}
	}
	for _, m := range shifts() {
		foursOf(grid(0, 1, 3), func(a, b, c, d api.Point) { try(m, a, b, c, d) })
	}
	for _, m := range moves() {
		foursOf(grid(0, 1, 3), func(a, b, c, d api.Point) { try(m, a, b, c, d) })
		foursOf(grid(-far, 1, far), func(a, b, c, d api.Point) { try(m, a, b, c, d) })
	}
}

func TestOrderOfArguments(t *testing.T) {
	threes(func(a, b, c api.Point) {
		turn := geom.Turn(a, b, c)
		if geom.Turn(b, c, a) != turn || geom.Turn(c, a, b) != turn || geom.Turn(b, a, c) != -turn || geom.Turn(a, c, b) != -turn || geom.Turn(c, b, a) != -turn {
			t.Fatalf("%v, %v, %v turn another way by their order", a, b, c)
		}
		if geom.On(a, b, c) != geom.On(a, c, b) {
			t.Fatalf("%v is on just one of the ways between %v and %v", a, b, c)
		}
	})
	fours(func(a, b, c, d api.Point) {
		meets := geom.Meet(a, b, c, d)
		if geom.Meet(b, a, c, d) != meets || geom.Meet(a, b, d, c) != meets || geom.Meet(c, d, a, b) != meets {
			t.Fatalf("%v, %v, %v, %v meet by their order", a, b, c, d)
		}
	})
}

func TestDirectionsStandInOneOrder(t *testing.T) {
	fours(func(o, a, b, c api.Point) {
		ab, bc := geom.Around(o, a, b), geom.Around(o, b, c)
		if geom.Around(o, b, a) != -ab {
			t.Fatalf("seen from %v, %v and %v stand in two orders", o, a, b)
		}
		if a == o || b == o || c == o {
			return
		}
		if ac := geom.Around(o, a, c); ab == bc && ac != ab || ab == 0 && ac != bc || bc == 0 && ac != ab {
			t.Fatalf("seen from %v, %v, %v and %v stand in no order", o, a, b, c)
		}
	})
}
