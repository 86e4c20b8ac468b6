package realm_test

import (
	"math"
	"math/big"
	"slices"
	"testing"

	"croft/api"
	"croft/plan"
	"croft/realm"
	"croft/spin"
	"croft/wide"
)

// town is a square with a lesser one in it, which has a triangle in it, and beside
// it an edge; vertices alone in all of these, and outside; another triangle that
// touches the square from without in a corner; an edge into the square that ends
// there. Numbers are left out, and the inner ones are the lesser ones.
func town() plan.Plan {
	return plan.Plan{
		Vertices: []api.Vertex{
			{Id: 2, At: at(4, 4)}, {Id: 3, At: at(12, 4)}, {Id: 4, At: at(12, 12)}, {Id: 5, At: at(4, 12)},
			{Id: 7, At: at(6, 6)}, {Id: 8, At: at(10, 6)}, {Id: 9, At: at(8, 10)},
			{Id: 11, At: at(0, 0)}, {Id: 12, At: at(20, 0)}, {Id: 13, At: at(20, 20)}, {Id: 14, At: at(0, 20)},
			{Id: 15, At: at(14, 14)}, {Id: 16, At: at(16, 6)}, {Id: 17, At: at(14, 18)},
			{Id: 20, At: at(22, 24)}, {Id: 21, At: at(24, 22)},
			{Id: 30, At: at(8, 7)}, {Id: 31, At: at(5, 11)}, {Id: 32, At: at(2, 4)}, {Id: 33, At: at(24, 24)}, {Id: 34, At: at(-1, 20)}, {Id: 35, At: at(18, 14)}, {Id: 36, At: at(22, 22)},
		},
		Edges: []api.Edge{
			{Id: 1, A: 7, B: 8}, {Id: 2, A: 9, B: 8}, {Id: 3, A: 9, B: 7},
			{Id: 5, A: 2, B: 3}, {Id: 6, A: 4, B: 3}, {Id: 7, A: 4, B: 5}, {Id: 8, A: 5, B: 2},
			{Id: 9, A: 15, B: 16},
			{Id: 10, A: 11, B: 12}, {Id: 11, A: 12, B: 13}, {Id: 12, A: 14, B: 13}, {Id: 13, A: 14, B: 11},
			{Id: 14, A: 13, B: 17},
			{Id: 20, A: 20, B: 13}, {Id: 21, A: 13, B: 21}, {Id: 22, A: 20, B: 21},
		},
	}
}

// townParts are the parts of the town.
func townParts() []realm.Realm {
	return []realm.Realm{
		{Inner: [][]api.Half{{back(10), back(13), fore(12), back(20), fore(22), back(21), back(11)}}, Alone: []int{33, 34}},
		{Outer: []api.Half{fore(1), back(2), fore(3)}, Alone: []int{30}},
		{Outer: []api.Half{fore(5), back(6), fore(7), fore(8)}, Inner: [][]api.Half{{back(1), back(3), fore(2)}}, Alone: []int{31}},
		{Outer: []api.Half{fore(10), fore(11), fore(14), back(14), back(12), fore(13)}, Inner: [][]api.Half{{back(5), back(8), back(7), fore(6)}, {fore(9), back(9)}}, Alone: []int{32, 35}},
		{Outer: []api.Half{fore(20), fore(21), back(22)}, Alone: []int{36}},
	}
}

func TestTheTown(t *testing.T) {
	holds(t, town())
}

// isArea fails the test unless that is the area of a list of halves.
func isArea(t *testing.T, p plan.Plan, ring []api.Half, want int64) {
	t.Helper()
	if got := realm.Area(p, ring); got != wide.Of(want) {
		t.Errorf("Area of %v = %s, not %d", ring, wide.Text(got), want)
	}
}

// Promise 17.1: Area, Within.

func TestArea(t *testing.T) {
	p := town()
	isArea(t, p, []api.Half{fore(1), back(2), fore(3)}, 16)
	isArea(t, p, []api.Half{back(2), fore(3), fore(1)}, 16)
	isArea(t, p, []api.Half{back(3), fore(2), back(1)}, -16)
	isArea(t, p, []api.Half{fore(10), fore(11), fore(14), back(14), back(12), fore(13)}, 800)
	isArea(t, p, []api.Half{back(10), back(13), fore(12), back(20), fore(22), back(21), back(11)}, -812)
	isArea(t, p, []api.Half{fore(9), back(9)}, 0)
	isArea(t, p, nil, 0)
	isArea(t, p, []api.Half{}, 0)
	// No rings: what each half gives is put together.
	isArea(t, p, []api.Half{fore(1)}, 6*6-10*6)
	isArea(t, p, []api.Half{back(1)}, 10*6-6*6)
	isArea(t, p, []api.Half{fore(1), fore(1), back(9)}, -2*24+16*14-14*6)
	isArea(t, p, []api.Half{fore(1), back(2), fore(3), fore(5), back(6), fore(7), fore(8)}, 16+128)
	// An edge isn't there.
	for _, edge := range []int{0, 4, 15, 23, -1, math.MaxInt, math.MinInt} {
		for _, h := range []api.Half{fore(edge), back(edge)} {
			isArea(t, p, []api.Half{h}, 0)
			isArea(t, p, []api.Half{h, fore(1), back(2), fore(3)}, 0)
			isArea(t, p, []api.Half{fore(1), back(2), h, fore(3)}, 0)
			isArea(t, p, []api.Half{fore(1), back(2), fore(3), h}, 0)
		}
	}
	isArea(t, plan.Plan{}, []api.Half{fore(1)}, 0)
}

func TestAreaFarOut(t *testing.T) {
	var p plan.Plan
	box(&p, at(-far, -far), at(far, far))
	around := []api.Half{fore(1), fore(2), fore(3), fore(4)}
	isArea(t, p, around, 1<<59)
	isArea(t, p, []api.Half{back(1), back(4), back(3), back(2)}, -1<<59)
	// As often as its sum is far above what goes into an int64.
	want := wide.Of(1 << 59)
	for range 10 {
		around = append(around, around...)
		want, _ = wide.Add(want, want)
	}
	if got := realm.Area(p, around); got != want {
		t.Errorf("Area of a square 1024 times = %s", wide.Text(got))
	}
}

// inIt fails the test unless a point is within a list of halves, or isn't.
func inIt(t *testing.T, p plan.Plan, ring []api.Half, c api.Point, want bool) {
	t.Helper()
	if got := realm.Within(p, ring, c); got != want {
		t.Errorf("Within(%v, %v) = %t", ring, c, got)
	}
}

func TestWithin(t *testing.T) {
	p := town()
	outer := []api.Half{fore(10), fore(11), fore(14), back(14), back(12), fore(13)}
	for _, c := range []api.Point{at(1, 1), at(10, 10), at(8, 6), at(3, 14), at(13, 18), at(13, 19), at(15, 18), at(19, 19), at(4, 4), at(1, 19), at(19, 1)} {
		inIt(t, p, outer, c, true)
	}
	for _, c := range []api.Point{
		at(0, 0), at(20, 0), at(20, 20), at(0, 20), at(14, 18), // corners
		at(9, 0), at(20, 9), at(9, 20), at(0, 9), at(17, 19), // on its lines
		at(-1, 0), at(-1, 9), at(-1, 20), at(-1, 18), at(21, 0), at(21, 9), at(21, 20), at(9, -1), at(9, 21), at(14, 21), at(14, -1), at(0, -1), at(0, 21), at(20, 21), at(20, -1),
		at(-far, 0), at(-far, 9), at(far, 9), at(-far, 20), at(-far, 18),
	} {
		inIt(t, p, outer, c, false)
	}
	// The other way around it is the same lines.
	lesser := []api.Half{back(1), back(3), fore(2)}
	inIt(t, p, lesser, at(8, 7), true)
	inIt(t, p, lesser, at(8, 9), true)
	inIt(t, p, lesser, at(8, 10), false)
	inIt(t, p, lesser, at(6, 7), false)
	inIt(t, p, lesser, at(5, 6), false)
	inIt(t, p, lesser, at(5, 10), false)
	inIt(t, p, lesser, at(10, 7), false)
	// No rings: lines are counted, each as often as it is there.
	inIt(t, p, []api.Half{fore(11)}, at(5, 5), true)
	inIt(t, p, []api.Half{back(11)}, at(5, 0), true)
	inIt(t, p, []api.Half{fore(11)}, at(5, 20), false)
	inIt(t, p, []api.Half{fore(11)}, at(20, 5), false)
	inIt(t, p, []api.Half{fore(11)}, at(21, 5), false)
	inIt(t, p, []api.Half{fore(11), fore(11)}, at(5, 5), false)
	inIt(t, p, []api.Half{fore(11), back(11)}, at(5, 5), false)
	inIt(t, p, []api.Half{fore(11), back(11), fore(11)}, at(5, 5), true)
	inIt(t, p, nil, at(5, 5), false)
	// Points out of range; an edge isn't there.
	for _, c := range []api.Point{at(-far-1, 9), at(9, far+1), at(math.MinInt, 9), at(math.MaxInt, 9), at(9, math.MinInt), at(9, math.MaxInt)} {
		inIt(t, p, outer, c, false)
		inIt(t, p, []api.Half{fore(11)}, c, false)
	}
	for _, edge := range []int{0, 4, 15, 23, -1, math.MaxInt, math.MinInt} {
		inIt(t, p, append([]api.Half{fore(edge)}, outer...), at(1, 1), false)
		inIt(t, p, append(slices.Clone(outer), back(edge)), at(1, 1), false)
	}
	inIt(t, plan.Plan{}, outer, at(1, 1), false)
}

func TestWithinFarOut(t *testing.T) {
	var p plan.Plan
	round(&p, at(-far, -far), at(far, 1-far), at(far, far), at(1-far, far))
	around := []api.Half{fore(1), fore(2), fore(3), fore(4)}
	for _, c := range []api.Point{at(0, 0), at(far-1, far-1), at(far-1, 1-far), at(1-far, 1-far), at(1-far, far-1)} {
		inIt(t, p, around, c, true)
	}
	for _, c := range []api.Point{at(far, -far), at(0, -far), at(-far, far), at(-far, 0), at(-far, 1-far), at(far, 0), at(0, far), at(-far, -far), at(-far-1, 0)} {
		inIt(t, p, around, c, false)
	}
}

// TestListsThatAreNoRings asks of any lists of halves, with some that aren't there.
func TestListsThatAreNoRings(t *testing.T) {
	s := &stirred{3}
	for _, side := range []int{1, far / 3} {
		for range 40 {
			p := mixed(s, side)
			if len(p.Edges) == 0 {
				continue
			}
			for range 20 {
				var ring []api.Half
				for range s.below(8) {
					ring = append(ring, api.Half{Edge: p.Edges[s.below(len(p.Edges))].Id, Back: s.below(2) == 0})
				}
				if s.below(5) == 0 {
					ring = append(ring, fore(p.Edges[len(p.Edges)-1].Id+s.below(2)))
				}
				sameArea(t, p, ring)
				sameWithin(t, p, ring, at((s.below(9)-4)*side, (s.below(9)-4)*side))
				sameWithin(t, p, ring, at((s.below(9)-4)*side/2, (s.below(9)-4)*side/2))
			}
		}
	}
}

// sameArea, sameWithin fail the test unless it is answered what the model has.
func sameArea(t *testing.T, p plan.Plan, ring []api.Half) {
	t.Helper()
	if got, want := wide.Text(realm.Area(p, ring)), areaOf(p, ring).String(); got != want {
		t.Fatalf("Area(%v, %v) = %s, not %s", p, ring, got, want)
	}
}

func sameWithin(t *testing.T, p plan.Plan, ring []api.Half, c api.Point) {
	t.Helper()
	if got, want := realm.Within(p, ring, c), isWithin(p, ring, c); got != want {
		t.Fatalf("Within(%v, %v, %v) = %t", p, ring, c, got)
	}
}

// Promise 17.2: Realms.

// parts fails the test unless a plan has these parts.
func parts(t *testing.T, what string, p plan.Plan, want ...realm.Realm) {
	t.Helper()
	if got := realm.Realms(p); !alike(got, want) {
		t.Errorf("Realms of %s = %v, not %v", what, got, want)
	}
}

func TestRealms(t *testing.T) {
	parts(t, "the town", town(), townParts()...)
	parts(t, "nothing", plan.Plan{}, realm.Realm{})
	two := []api.Point{at(3, 0), at(5, 1)}
	parts(t, "vertices alone", mapOf(two), realm.Realm{Alone: []int{1, 2}})
	parts(t, "an edge", mapOf(two, [2]int{2, 1}), realm.Realm{Inner: [][]api.Half{{fore(1), back(1)}}})
	parts(t, "a square with a vertex alone in it", func() plan.Plan {
		p := plan.Plan{}
		box(&p, at(0, 0), at(4, 4))
		add(&p, at(2, 3))
		return p
	}(),
		realm.Realm{Inner: [][]api.Half{{back(1), back(4), back(3), back(2)}}},
		realm.Realm{Outer: []api.Half{fore(1), fore(2), fore(3), fore(4)}, Alone: []int{5}})
	isArea(t, mapOf([]api.Point{at(0, 0), at(4, 0), at(4, 4), at(0, 4)}, [2]int{1, 2}, [2]int{2, 3}, [2]int{3, 4}, [2]int{4, 1}), []api.Half{fore(1), fore(2), fore(3), fore(4)}, 32)
}

// TestTouching has a triangle in a square that touches it in a corner from within:
// what is between them has one ring.
func TestTouching(t *testing.T) {
	p := mapOf([]api.Point{at(0, 0), at(8, 0), at(8, 8), at(0, 8), at(3, 1), at(1, 3), at(2, 2), at(1, 5), at(5, 1), at(2, 1)},
		[2]int{1, 2}, [2]int{2, 3}, [2]int{3, 4}, [2]int{4, 1}, [2]int{1, 5}, [2]int{5, 6}, [2]int{6, 1})
	p.Vertices[6].At = at(9, 9)
	parts(t, "a triangle in a corner", p,
		realm.Realm{Inner: [][]api.Half{{back(1), back(4), back(3), back(2)}}, Alone: []int{7}},
		realm.Realm{Outer: []api.Half{fore(1), fore(2), fore(3), fore(4), back(7), back(6), back(5)}, Alone: []int{8, 9}},
		realm.Realm{Outer: []api.Half{fore(5), fore(6), fore(7)}, Alone: []int{10}})
	isArea(t, p, []api.Half{fore(1), fore(2), fore(3), fore(4), back(7), back(6), back(5)}, 128-8)
	holds(t, p)
}

// TestLinked has a square in a square, and an edge between them: what is between
// them has one ring, which goes along that edge both ways.
func TestLinked(t *testing.T) {
	var p plan.Plan
	box(&p, at(0, 0), at(12, 12))
	box(&p, at(4, 4), at(8, 8))
	link(&p, 2, 6)
	add(&p, at(6, 6))
	add(&p, at(2, 6))
	add(&p, at(8, 2))
	parts(t, "two squares, linked", p,
		realm.Realm{Inner: [][]api.Half{{back(1), back(4), back(3), back(2)}}},
		realm.Realm{Outer: []api.Half{fore(1), fore(9), back(5), back(8), back(7), back(6), back(9), fore(2), fore(3), fore(4)}, Alone: []int{10, 11}},
		realm.Realm{Outer: []api.Half{fore(5), fore(6), fore(7), fore(8)}, Alone: []int{9}})
	holds(t, p)
}

// TestSquaresInSquares has as many as there can be, numbered from without, and from
// within; in some of them are two vertices alone.
func TestSquaresInSquares(t *testing.T) {
	const n = 126
	for _, fromWithin := range []bool{false, true} {
		var p plan.Plan
		number := func(r int) int { // of the square r, counted from within, by which they come
			if fromWithin {
				return r
			}
			return 1 + n - r
		}
		for i := range n {
			r := number(1 + i)
			box(&p, at(-8*r, -8*r), at(8*r, 8*r))
		}
		want := make([]realm.Realm, 1+n)
		want[0].Inner = [][]api.Half{around(number(n), true)}
		for r := 1; r <= n; r++ {
			part := &want[number(r)]
			part.Outer = around(number(r), false)
			if r > 1 {
				part.Inner = [][]api.Half{around(number(r-1), true)}
			}
			if r == 1 || r == 2 || r == 50 || r == n {
				part.Alone = []int{add(&p, at(8*r-3, 0)), add(&p, at(-8*r+3, 5-8*r))}
			}
			if place, e := realm.Find(p, at(-8*r+1, 7)); place != (realm.Place{Realm: number(r)}) || e != api.OK {
				t.Fatalf("Find in the square %d = %v, %d", r, place, e)
			}
		}
		parts(t, "squares", p, want...)
		same(t, renumbered(p, &stirred{1}))
	}
}

// around is the ring around a square by its number, to the left, or from without to
// the right.
func around(number int, outside bool) []api.Half {
	n := 4 * number
	if outside {
		return []api.Half{back(n - 3), back(n), back(n - 1), back(n - 2)}
	}
	return []api.Half{fore(n - 3), fore(n - 2), fore(n - 1), fore(n)}
}

// same fails the test unless a plan has the parts that the model tells.
func same(t *testing.T, p plan.Plan) *world {
	t.Helper()
	w := worldOf(p, spin.Rings(p))
	got := realm.Realms(p)
	if want := w.realms(); !alike(got, want) {
		t.Fatalf("Realms(%v) = %v, not %v", p, got, want)
	}
	ringed(t, p, got)
	return w
}

// holds fails the test unless all that is told of a right plan is as it should be.
func holds(t *testing.T, p plan.Plan, points ...api.Point) {
	t.Helper()
	before := copied(p)
	if !plan.Right(p) {
		t.Fatalf("%v isn't right", p)
	}
	w := same(t, p)
	for i, ring := range w.rings {
		if len(w.rings) > 100 && i%50 > 0 {
			continue // of the greatest plans not all, as each is asked whether it is right
		}
		sameArea(t, p, ring)
		if sign := wide.Sign(realm.Area(p, ring)); sign > 0 != (w.outer[i] > 0) {
			t.Fatalf("%v: the area of %v is %d", p, ring, sign)
		}
	}
	found(t, w, points)
	if !slices.Equal(p.Vertices, before.Vertices) || !slices.Equal(p.Edges, before.Edges) {
		t.Fatalf("%v was changed", before)
	}
}

// Promise 17.3: Find.

func TestFind(t *testing.T) {
	p := town()
	for _, x := range []struct {
		at   api.Point
		want realm.Place
		e    api.Errno
	}{
		{at(4, 4), realm.Place{Vertex: 2}, api.OK},
		{at(20, 20), realm.Place{Vertex: 13}, api.OK},
		{at(14, 18), realm.Place{Vertex: 17}, api.OK},
		{at(18, 14), realm.Place{Vertex: 35}, api.OK}, // alone
		{at(-1, 20), realm.Place{Vertex: 34}, api.OK},
		{at(8, 6), realm.Place{Edge: 1}, api.OK},
		{at(7, 8), realm.Place{Edge: 3}, api.OK},
		{at(15, 10), realm.Place{Edge: 9}, api.OK},
		{at(17, 19), realm.Place{Edge: 14}, api.OK},
		{at(20, 14), realm.Place{Edge: 11}, api.OK},
		{at(8, 8), realm.Place{Realm: 1}, api.OK},
		{at(8, 7), realm.Place{Vertex: 30}, api.OK},
		{at(6, 10), realm.Place{Realm: 2}, api.OK},
		{at(5, 6), realm.Place{Realm: 2}, api.OK},
		{at(11, 6), realm.Place{Realm: 2}, api.OK},
		{at(3, 6), realm.Place{Realm: 3}, api.OK},
		{at(13, 14), realm.Place{Realm: 3}, api.OK},
		{at(15, 14), realm.Place{Realm: 3}, api.OK},
		{at(16, 10), realm.Place{Realm: 3}, api.OK},
		{at(1, 18), realm.Place{Realm: 3}, api.OK},
		{at(17, 18), realm.Place{Realm: 3}, api.OK},
		{at(21, 21), realm.Place{Realm: 4}, api.OK},
		{at(-1, 0), realm.Place{}, api.OK},
		{at(-1, 18), realm.Place{}, api.OK},
		{at(-1, 6), realm.Place{}, api.OK},
		{at(21, 10), realm.Place{}, api.OK},
		{at(21, 20), realm.Place{}, api.OK},
		{at(25, 25), realm.Place{}, api.OK},
		{at(far, far), realm.Place{}, api.OK},
		{at(-far, 10), realm.Place{}, api.OK},
		{at(far+1, 10), realm.Place{}, api.ErrRange},
		{at(10, -far-1), realm.Place{}, api.ErrRange},
		{at(math.MinInt, 10), realm.Place{}, api.ErrRange},
		{at(8, math.MaxInt), realm.Place{}, api.ErrRange},
	} {
		if got, e := realm.Find(p, x.at); got != x.want || e != x.e {
			t.Errorf("Find(%v) = %v, %d, not %v, %d", x.at, got, e, x.want, x.e)
		}
	}
	if got, e := realm.Find(plan.Plan{}, at(0, 0)); got != (realm.Place{}) || e != api.OK {
		t.Errorf("Find in nothing = %v, %d", got, e)
	}
	if got, e := realm.Find(plan.Plan{}, at(0, far+1)); got != (realm.Place{}) || e != api.ErrRange {
		t.Errorf("Find in nothing = %v, %d", got, e)
	}
	if got, e := realm.Find(mapOf([]api.Point{at(0, 0)}), at(0, 0)); got != (realm.Place{Vertex: 1}) || e != api.OK {
		t.Errorf("Find of a vertex alone = %v, %d", got, e)
	}
}

// found fails the test unless points lie where the model has them, and, of those
// that no edge parts, all in the same part.
func found(t *testing.T, w *world, points []api.Point) {
	t.Helper()
	var places []realm.Place
	for _, c := range points {
		got, e := realm.Find(w.p, c)
		if want := w.find(c); got != want || e != api.OK {
			t.Fatalf("Find(%v, %v) = %v, %d, not %v", w.p, c, got, e, want)
		}
		for i, other := range places {
			if got != other && w.free(points[i], c) && got.Vertex == 0 && other.Vertex == 0 {
				t.Fatalf("%v: no edge parts %v from %v, which lie in %v and %v", w.p, points[i], c, other, got)
			}
		}
		places = append(places, got)
	}
}

func TestAllSmallPlans(t *testing.T) {
	s := &stirred{1}
	tried := 0
	for set := range 1 << 9 {
		var corners []api.Point
		for i := range 9 {
			if set>>i&1 == 1 {
				corners = append(corners, at(4*(i/3), 4*(i%3)))
			}
		}
		n := len(corners)
		if n > 5 {
			continue
		}
		grow(mapOf(corners), pairs(n), func(p plan.Plan) {
			tried++
			var points []api.Point
			for range 3 {
				points = append(points, at(s.below(11)-1, s.below(11)-1))
			}
			if n < 5 {
				holds(t, p, points...)
			}
			holds(t, renumbered(p, s), points...)
		})
	}
	if tried < 20000 {
		t.Errorf("%d plans were tried", tried)
	}
}

func TestMixedPlans(t *testing.T) {
	for seed := range uint64(60) {
		s := &stirred{seed}
		for _, side := range []int{1, 7, far / 3} {
			p := mixed(s, side)
			var points []api.Point
			for range 40 {
				points = append(points, at(s.below(6*side+1)-3*side, s.below(6*side+1)-3*side))
			}
			holds(t, p, points...)
			for _, ring := range spin.Rings(p) {
				sameWithin(t, p, ring, points[s.below(40)])
			}
		}
	}
}

// TestIslands has what lies in one another, and stands beside one another, in many
// ways.
func TestIslands(t *testing.T) {
	nested, tried := 0, 0
	for seed := range uint64(90) {
		s := &stirred{seed}
		side := []int{1, 1 << 20}[seed%2]
		p := islands(s, side)
		var points []api.Point
		for range 20 {
			points = append(points, at((s.below(65)-32)*8*side, (s.below(65)-32)*8*side))
			if n := len(p.Vertices); n > 0 {
				near := p.Vertices[s.below(n)].At
				points = append(points, at(near.X+side, near.Y), at(near.X, near.Y-side))
			}
		}
		points = slices.DeleteFunc(points, func(c api.Point) bool { return !inRange(c) })
		holds(t, p, points...)
		for _, r := range realm.Realms(p) {
			tried++
			if len(r.Outer) > 0 && len(r.Inner)+len(r.Alone) > 1 {
				nested++
			}
		}
	}
	if tried < 1000 || nested < 80 {
		t.Errorf("%d parts, %d with several things in them", tried, nested)
	}
}

// Promise 17.4: each ring stands in one part, each vertex alone too; the areas of a
// part's rings are above 0.

// ringed fails the test unless that holds of these parts. (That no edge parts what
// lies in one part, found asks.)
func ringed(t *testing.T, p plan.Plan, l []realm.Realm) {
	t.Helper()
	count, alone := map[api.Half]int{}, map[int]int{}
	ways, rings := waysOf(p), 0
	for i, r := range l {
		sum := new(big.Int)
		for j, ring := range append([][]api.Half{r.Outer}, r.Inner...) {
			if len(ring) == 0 && j+i > 0 {
				t.Fatalf("%v: the part %d has an empty ring", p, i)
			}
			for _, h := range ring {
				count[h]++
				w := ways[h]
				sum.Add(sum, big.NewInt(int64(w.from.X)*int64(w.to.Y)-int64(w.to.X)*int64(w.from.Y)))
			}
			if len(ring) > 0 {
				rings++
			}
		}
		for _, id := range r.Alone {
			alone[id]++
		}
		if (sum.Sign() > 0) != (i > 0) || (len(r.Outer) > 0) != (i > 0) {
			t.Fatalf("%v: the areas of the part %d, %v, are together %v", p, i, r, sum)
		}
	}
	for _, h := range slices.Concat(spin.Rings(p)...) {
		if count[h] != 1 {
			t.Fatalf("%v: %v stands in parts %d times", p, h, count[h])
		}
	}
	if len(count) != 2*len(p.Edges) || rings != len(spin.Rings(p)) {
		t.Fatalf("%v: %d halves stand in parts, and %d rings", p, len(count), rings)
	}
	for _, v := range p.Vertices {
		if n := alone[v.Id]; n > 1 || n == 1 != (plan.Degree(p, v.Id) == 0) {
			t.Fatalf("%v: %d is alone %d times", p, v.Id, n)
		}
	}
}

// TestAsMuchAsMayBe has plans at the limits.
func TestAsMuchAsMayBe(t *testing.T) {
	full := mesh(16, 32, 5)
	full.Edges = full.Edges[:1024:1024]
	var sticks, loose, archipelago, fan plan.Plan
	for i := range 512 {
		add(&sticks, at(i/2*2, 5*i-i%2*2))
		if i%2 == 1 {
			link(&sticks, i, i+1)
		}
		add(&loose, at(i%23, i/23))
	}
	box(&archipelago, at(-9, -9), at(999, 999))
	for i := range 169 {
		x, y := i%13*9, i/13*9
		round(&archipelago, at(x, y), at(x+5, y+1), at(x+2, y+6))
	}
	add(&archipelago, at(3, 3))
	add(&fan, at(-far, 0))
	for i := range 511 {
		add(&fan, at(far-i%3, i-200))
		link(&fan, 1, 2+i)
	}
	for what, p := range map[string]plan.Plan{"a mesh": full, "edges": sticks, "vertices": loose, "islands": archipelago, "a fan": fan} {
		if len(p.Vertices) != 512 {
			t.Fatalf("%s has %d vertices", what, len(p.Vertices))
		}
		for _, q := range []plan.Plan{p, renumbered(p, &stirred{7})} {
			holds(t, q)
			found(t, worldOf(q, spin.Rings(q)), []api.Point{at(4, 4), at(100, 70), at(-1, 8), at(far, far), at(-far, 1), at(0, 100), at(2, 2), at(4, 5)})
		}
	}
}

// What all of these promises say of plans that aren't right.

func TestWrongPlans(t *testing.T) {
	spoiled := map[string]func(p *plan.Plan){
		"a vertex 0":                     func(p *plan.Plan) { p.Vertices[0].Id = 0; p.Edges = p.Edges[8:] },
		"a vertex out of order":          func(p *plan.Plan) { p.Vertices[16].Id = 31 },
		"a vertex too far out":           func(p *plan.Plan) { p.Vertices[16].At.X = far + 1 },
		"a point twice":                  func(p *plan.Plan) { p.Vertices[16].At = at(4, 4) },
		"a vertex on an edge":            func(p *plan.Plan) { p.Vertices[16].At = at(0, 1) },
		"an edge 0":                      func(p *plan.Plan) { p.Edges[0].Id = 0 },
		"an edge out of order":           func(p *plan.Plan) { p.Edges[15].Id = 1 },
		"two edges of one number":        func(p *plan.Plan) { p.Edges[15].Id = 21 },
		"an edge from a vertex to it":    func(p *plan.Plan) { p.Edges[15].B = 20 },
		"an edge to no vertex":           func(p *plan.Plan) { p.Edges[15].B = 10 },
		"the same edge the other way":    func(p *plan.Plan) { p.Edges[15].A, p.Edges[15].B = 21, 13 },
		"edges that cross":               func(p *plan.Plan) { p.Edges[15].A = 11 },
		"no vertices":                    func(p *plan.Plan) { p.Vertices = nil },
		"vertices alone, a point twice":  func(p *plan.Plan) { p.Edges = nil; p.Vertices[16].At = at(4, 4) },
		"an edge more than there may be": func(p *plan.Plan) { *p = mesh(16, 32, 5); p.Edges = p.Edges[:1025] },
		"too many vertices":              func(p *plan.Plan) { *p = mesh(27, 19, 1); p.Edges = p.Edges[:20] },
	}
	for what, spoil := range spoiled {
		p := town()
		spoil(&p)
		if plan.Right(p) {
			t.Fatalf("%s is right", what)
		}
		if l := realm.Realms(p); len(l) != 0 {
			t.Errorf("Realms of %s = %v", what, l)
		}
		for _, c := range []api.Point{at(4, 4), at(9, 0), at(8, 8), at(1, 1), at(-1, 0), at(far, far), at(far+1, 0), at(math.MinInt, math.MaxInt)} {
			if got, e := realm.Find(p, c); got != (realm.Place{}) || e != api.ErrArg {
				t.Errorf("Find of %s, %v = %v, %d", what, c, got, e)
			}
			for _, ring := range [][]api.Half{{fore(11)}, {fore(1), back(2), fore(3)}, {fore(20)}, {back(21)}, {fore(0)}, {}, {fore(10), fore(11), back(12), fore(13)}} {
				isArea(t, p, ring, 0)
				inIt(t, p, ring, c, false)
			}
		}
	}
}

// TestWhatIsHandedInStays has lists with spare room behind them, which no call may
// write into.
func TestWhatIsHandedInStays(t *testing.T) {
	p := town()
	n, m := len(p.Vertices), len(p.Edges)
	more := plan.Plan{Vertices: append(p.Vertices, api.Vertex{Id: 99}), Edges: append(p.Edges, api.Edge{Id: 98})}
	whole := copied(more)
	p = plan.Plan{Vertices: more.Vertices[:n], Edges: more.Edges[:m]}
	long := []api.Half{fore(1), back(2), fore(3), fore(77), back(78)}
	ring := long[:3]
	holds(t, p, at(4, 4), at(9, 0), at(8, 8), at(1, 1), at(-1, 0))
	isArea(t, p, ring, 16)
	inIt(t, p, ring, at(8, 8), true)
	if !slices.Equal(more.Vertices, whole.Vertices) || !slices.Equal(more.Edges, whole.Edges) || !slices.Equal(long, []api.Half{fore(1), back(2), fore(3), fore(77), back(78)}) {
		t.Fatal("what was handed in was changed")
	}
}

// TestWhatIsHandedOutIsNew writes into answers, and behind their ends.
func TestWhatIsHandedOutIsNew(t *testing.T) {
	p, want := town(), townParts()
	other, l := realm.Realms(p), realm.Realms(p)
	for i := range l {
		spoil(l[i].Outer, fore(77))
		spoil(l[i].Alone, 77)
		for j := range l[i].Inner {
			spoil(l[i].Inner[j], fore(77))
			if j+1 < len(l[i].Inner) && !slices.Equal(l[i].Inner[j+1], want[i].Inner[j+1]) {
				t.Fatalf("two inner rings of the part %d share memory", i)
			}
		}
		spoil(l[i].Inner, nil)
		if !alike(l[i+1:], want[i+1:]) {
			t.Fatalf("the part %d shares memory with others", i)
		}
	}
	spoil(l, realm.Realm{})
	if !alike(other, want) {
		t.Fatal("two answers share memory")
	}
	holds(t, p)
}

// spoil overwrites a list and the room behind it.
func spoil[E any](l []E, by E) {
	for i := range l[:cap(l)] {
		l[:cap(l)][i] = by
	}
}
