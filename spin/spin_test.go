package spin_test

import (
	"math"
	"slices"
	"testing"

	"croft/api"
	"croft/plan"
	"croft/spin"
)

// triangle has the edges 1 to 3 around to the left.
func triangle() plan.Plan {
	return mapOf([]api.Point{at(0, 0), at(4, 0), at(0, 4)}, [2]int{1, 2}, [2]int{2, 3}, [2]int{3, 1})
}

// field is a square with an edge into it that ends there, a triangle beside it
// that has one side in common with it, and in it a vertex alone, and an edge that
// hangs together with nothing. Numbers are left out.
//
//	4-----7-----3
//	|   14      |
//	| 13        |
//	|       6---2-----9
//	|   12      |   /
//	|           | /
//	1-----5----10
func field() plan.Plan {
	return plan.Plan{
		Vertices: []api.Vertex{
			{Id: 1, At: at(0, 0)}, {Id: 2, At: at(6, 3)}, {Id: 3, At: at(6, 6)}, {Id: 4, At: at(0, 6)}, {Id: 5, At: at(3, 0)}, {Id: 6, At: at(4, 3)}, {Id: 7, At: at(3, 6)},
			{Id: 9, At: at(9, 3)}, {Id: 10, At: at(6, 0)}, {Id: 12, At: at(2, 2)}, {Id: 13, At: at(1, 4)}, {Id: 14, At: at(2, 5)},
		},
		Edges: []api.Edge{
			{Id: 2, A: 1, B: 5}, {Id: 3, A: 5, B: 10}, {Id: 5, A: 2, B: 10}, {Id: 6, A: 2, B: 3}, {Id: 8, A: 7, B: 3}, {Id: 9, A: 7, B: 4}, {Id: 10, A: 1, B: 4},
			{Id: 20, A: 6, B: 2}, {Id: 21, A: 9, B: 2}, {Id: 22, A: 9, B: 10}, {Id: 30, A: 14, B: 13},
		},
	}
}

// Promise 16.1: Twin, Less, Ends.

func TestTwin(t *testing.T) {
	for _, edge := range []int{0, 1, 2, 1024, -1, math.MaxInt, math.MinInt} {
		if got := spin.Twin(fore(edge)); got != back(edge) {
			t.Errorf("Twin(%v) = %v", fore(edge), got)
		}
		if got := spin.Twin(back(edge)); got != fore(edge) {
			t.Errorf("Twin(%v) = %v", back(edge), got)
		}
	}
}

func TestLess(t *testing.T) {
	rising := []api.Half{
		fore(math.MinInt), back(math.MinInt), fore(-2), back(-2), fore(-1), back(-1), fore(0), back(0),
		fore(1), back(1), fore(2), back(2), fore(10), back(10), fore(math.MaxInt), back(math.MaxInt),
	}
	for i, a := range rising {
		for j, b := range rising {
			if got := spin.Less(a, b); got != (i < j) {
				t.Errorf("Less(%v, %v) = %t", a, b, got)
			}
		}
	}
}

func TestEnds(t *testing.T) {
	two, six, nine := api.Vertex{Id: 2, At: at(6, 3)}, api.Vertex{Id: 6, At: at(4, 3)}, api.Vertex{Id: 9, At: at(9, 3)}
	for _, x := range []struct {
		p    plan.Plan
		h    api.Half
		a, b api.Vertex
		ok   bool
	}{
		{field(), fore(20), six, two, true},
		{field(), back(20), two, six, true},
		{field(), fore(21), nine, two, true},
		{field(), back(21), two, nine, true},
		{field(), fore(1), api.Vertex{}, api.Vertex{}, false},
		{field(), back(1), api.Vertex{}, api.Vertex{}, false},
		{field(), fore(0), api.Vertex{}, api.Vertex{}, false},
		{field(), back(0), api.Vertex{}, api.Vertex{}, false},
		{field(), fore(-20), api.Vertex{}, api.Vertex{}, false},
		{field(), fore(31), api.Vertex{}, api.Vertex{}, false},
		{field(), back(math.MaxInt), api.Vertex{}, api.Vertex{}, false},
		{field(), fore(math.MinInt), api.Vertex{}, api.Vertex{}, false},
		{plan.Plan{}, fore(1), api.Vertex{}, api.Vertex{}, false},
		{plan.Plan{}, fore(0), api.Vertex{}, api.Vertex{}, false},
	} {
		if a, b, ok := spin.Ends(x.p, x.h); a != x.a || b != x.b || ok != x.ok {
			t.Errorf("Ends(%v) = %v, %v, %t", x.h, a, b, ok)
		}
	}
}

// Promise 16.2: Out, Next.

// leave fails the test unless these halves leave a vertex, in this order.
func leave(t *testing.T, p plan.Plan, id int, want ...api.Half) {
	t.Helper()
	if got := spin.Out(p, id); !slices.Equal(got, want) {
		t.Errorf("Out(%d) = %v, not %v", id, got, want)
	}
}

func TestOut(t *testing.T) {
	p := field()
	leave(t, p, 2, back(21), fore(6), back(20), fore(5))
	leave(t, p, 10, back(22), back(5), back(3))
	leave(t, p, 1, fore(2), fore(10))
	leave(t, p, 5, fore(3), back(2))
	leave(t, p, 9, fore(21), fore(22))
	leave(t, p, 6, fore(20))
	leave(t, p, 14, fore(30))
	leave(t, p, 13, back(30))
	leave(t, p, 12) // a vertex alone
	for _, id := range []int{0, 8, 11, 15, -2, math.MaxInt, math.MinInt} {
		leave(t, p, id)
		leave(t, plan.Plan{}, id)
	}
}

// TestOutInAllDirections has edges whose directions are as near to each other, and
// to the one to greater X, as can be.
func TestOutInAllDirections(t *testing.T) {
	around := []api.Point{
		at(far, 0), at(far, 1), at(far-1, 1), at(1, 1), at(far-1, far), at(1, far), at(0, far), at(-1, far), at(1-far, far), at(-2, 1), at(1-far, 1), at(-far, 1),
		at(-far, 0), at(-far, -1), at(1-far, -1), at(-1, -1), at(-1, -far), at(0, -far), at(1, -far), at(3, -7), at(far-1, -1), at(far, -1),
	}
	n := len(around)
	for seed := range uint64(20) {
		s := &stirred{seed}
		p := plan.Plan{Vertices: []api.Vertex{{Id: 100, At: at(0, 0)}}}
		want := make([]api.Half, n)
		for i, k := range s.order(n) {
			p.Vertices = append(p.Vertices, api.Vertex{Id: 101 + k, At: around[k]})
			x := api.Edge{Id: 1 + i, A: 100, B: 101 + k}
			want[k] = fore(1 + i)
			if s.below(2) == 0 {
				x.A, x.B, want[k].Back = x.B, x.A, true
			}
			p.Edges = append(p.Edges, x)
		}
		slices.SortFunc(p.Vertices, func(v, w api.Vertex) int { return v.Id - w.Id })
		leave(t, p, 100, want...)
		for k, h := range want {
			follows(t, p, spin.Twin(h), want[(k+n-1)%n])
			follows(t, p, h, spin.Twin(h))
		}
	}
}

// follows fails the test unless that half follows another one.
func follows(t *testing.T, p plan.Plan, h, want api.Half) {
	t.Helper()
	if got, ok := spin.Next(p, h); got != want || !ok {
		t.Errorf("Next(%v) = %v, %t, not %v", h, got, ok, want)
	}
}

func TestNext(t *testing.T) {
	p := field()
	for _, x := range [][2]api.Half{
		{fore(2), fore(3)},   // straight on
		{fore(3), back(5)},   // of two ways the one that is first to the right, from the way back on
		{back(5), back(20)},  // into the square
		{back(20), fore(20)}, // and back
		{fore(20), fore(6)},
		{fore(6), back(8)},
		{back(3), back(2)},
		{fore(5), back(22)},
		{back(22), fore(21)},
		{fore(21), fore(5)},
		{fore(22), back(3)},
		{back(6), back(21)},
		{fore(30), back(30)},
		{back(30), fore(30)},
	} {
		follows(t, p, x[0], x[1])
	}
	for _, edge := range []int{0, 1, 4, 19, 31, -2, math.MaxInt, math.MinInt} {
		for _, h := range []api.Half{fore(edge), back(edge)} {
			for _, q := range []plan.Plan{p, {}} {
				if got, ok := spin.Next(q, h); got != (api.Half{}) || ok {
					t.Errorf("Next(%v) = %v, %t", h, got, ok)
				}
			}
		}
	}
}

// Promise 16.3: Rings.

// rounds fails the test unless a plan has these rings.
func rounds(t *testing.T, what string, p plan.Plan, want ...[]api.Half) {
	t.Helper()
	if got := spin.Rings(p); !alike(got, want) {
		t.Errorf("Rings of %s = %v, not %v", what, got, want)
	}
}

func TestRings(t *testing.T) {
	two := []api.Point{at(0, 0), at(5, 1)}
	rounds(t, "nothing", plan.Plan{})
	rounds(t, "vertices alone", mapOf(two))
	rounds(t, "one edge", mapOf(two, [2]int{1, 2}), []api.Half{fore(1), back(1)})
	rounds(t, "one edge the other way", mapOf(two, [2]int{2, 1}), []api.Half{fore(1), back(1)})
	rounds(t, "a triangle", triangle(), []api.Half{fore(1), fore(2), fore(3)}, []api.Half{back(1), back(3), back(2)})
	p := triangle()
	p.Edges[0].A, p.Edges[0].B = 2, 1
	rounds(t, "a triangle, one edge the other way", p, []api.Half{fore(1), back(3), back(2)}, []api.Half{back(1), fore(2), fore(3)})
	p.Edges = []api.Edge{{Id: 4, A: 3, B: 1}, {Id: 7, A: 1, B: 2}, {Id: 9, A: 2, B: 3}}
	rounds(t, "a triangle of other numbers", p, []api.Half{fore(4), fore(7), fore(9)}, []api.Half{back(4), back(9), back(7)})
	rounds(t, "a field", field(),
		[]api.Half{fore(2), fore(3), back(5), back(20), fore(20), fore(6), back(8), fore(9), back(10)},
		[]api.Half{back(2), fore(10), back(9), fore(8), back(6), back(21), fore(22), back(3)},
		[]api.Half{fore(5), back(22), fore(21)},
		[]api.Half{fore(30), back(30)})
	rounds(t, "two triangles with a corner in common",
		mapOf([]api.Point{at(0, 0), at(2, 1), at(2, -1), at(-2, 1), at(-2, -1)}, [2]int{1, 2}, [2]int{4, 1}, [2]int{3, 2}, [2]int{5, 1}, [2]int{4, 5}, [2]int{1, 3}),
		[]api.Half{fore(1), back(3), back(6), back(4), back(5), fore(2)},
		[]api.Half{back(1), fore(6), fore(3)},
		[]api.Half{back(2), fore(5), fore(4)})
	rounds(t, "edges in a row", mapOf([]api.Point{at(0, 0), at(1, 0), at(2, 0), at(9, 0)}, [2]int{2, 3}, [2]int{4, 3}, [2]int{1, 2}),
		[]api.Half{fore(1), back(2), fore(2), back(1), back(3), fore(3)})
}

// holds fails the test unless all that is told of a right plan is as it should be.
func holds(t *testing.T, p plan.Plan) {
	t.Helper()
	before := copied(p)
	for _, h := range halves(p) {
		a, b := ends(p, h)
		if c, d, ok := spin.Ends(p, h); c != a || d != b || !ok {
			t.Fatalf("Ends(%v, %v) = %v, %v, %t", p, h, c, d, ok)
		}
		want := next(p, h)
		if got, ok := spin.Next(p, h); got != want || !ok {
			t.Fatalf("Next(%v, %v) = %v, %t, not %v", p, h, got, ok, want)
		}
	}
	for _, v := range p.Vertices {
		if got, want := spin.Out(p, v.Id), out(p, v.Id); !slices.Equal(got, want) {
			t.Fatalf("Out(%v, %d) = %v, not %v", p, v.Id, got, want)
		}
	}
	ringsHold(t, p)
	if !slices.Equal(p.Vertices, before.Vertices) || !slices.Equal(p.Edges, before.Edges) {
		t.Fatalf("%v was changed", before)
	}
}

// ringsHold fails the test unless a plan's rings are as they should be.
func ringsHold(t *testing.T, p plan.Plan) {
	t.Helper()
	got := spin.Rings(p)
	if want := rings(p); !alike(got, want) {
		t.Fatalf("Rings(%v) = %v, not %v", p, got, want)
	}
	goTogether(t, p, got)
}

func TestAllSmallPlans(t *testing.T) {
	s := &stirred{1}
	tried := 0
	for set := range 1 << 9 {
		var points []api.Point
		for i := range 9 {
			if set>>i&1 == 1 {
				points = append(points, at(i/3, i%3))
			}
		}
		n := len(points)
		if n > 5 {
			continue
		}
		grow(mapOf(points), pairs(n), func(p plan.Plan) {
			if n < 5 {
				holds(t, p)
			}
			holds(t, renumbered(p, s))
			tried++
		})
	}
	if tried < 20000 {
		t.Errorf("%d plans were tried", tried)
	}
}

// mixed is a plan of up to 40 vertices and such edges as may be between them.
func mixed(s *stirred, side int) plan.Plan {
	var p plan.Plan
	id := 0
	for range 40 {
		point := at((s.below(7)-3)*side, (s.below(7)-3)*side)
		if plan.CanAdd(p, point) == api.OK {
			id += 1 + s.below(3)
			p.Vertices = append(p.Vertices, api.Vertex{Id: id, At: point})
		}
	}
	n, last := len(p.Vertices), 0
	for range s.below(200) {
		a, b := p.Vertices[s.below(n)].Id, p.Vertices[s.below(n)].Id
		if plan.CanLink(p, a, b) == api.OK {
			last += 1 + s.below(3)
			p.Edges = append(p.Edges, api.Edge{Id: last, A: a, B: b})
		}
	}
	return p
}

func TestMixedPlans(t *testing.T) {
	for seed := range uint64(60) {
		s := &stirred{seed}
		holds(t, mixed(s, 1))
		holds(t, mixed(s, far/3))
	}
}

// Promise 16.4: each half stands in one ring; vertices, edges, rings and pieces go
// together.

// goTogether fails the test unless that holds of these rings. And it asks whether
// who goes along them has one part of the plane on the left: around each piece
// leads one ring, to the right, or around nothing; the others lead to the left.
func goTogether(t *testing.T, p plan.Plan, rings [][]api.Half) {
	t.Helper()
	count, piece := map[api.Half]int{}, pieces(p)
	around := map[int]int{}
	for _, ring := range rings {
		first, _ := ends(p, ring[0])
		for i, h := range ring {
			count[h]++
			_, to := ends(p, h)
			from, _ := ends(p, ring[(i+1)%len(ring)])
			if from != to {
				t.Fatalf("%v: what follows %v begins elsewhere", p, h)
			}
		}
		if area(p, ring) <= 0 {
			around[piece[first.Id]]++
		}
	}
	for _, h := range halves(p) {
		if count[h] != 1 {
			t.Fatalf("%v: %v stands in rings %d times", p, h, count[h])
		}
	}
	if len(count) != 2*len(p.Edges) {
		t.Fatalf("%v: %d halves stand in rings", p, len(count))
	}
	if n := len(piece) - len(p.Edges) + len(rings); n != 2*len(around) {
		t.Fatalf("%v: %d rings", p, len(rings))
	}
	for _, v := range piece {
		if around[v] != 1 {
			t.Fatalf("%v: %d rings lead around the piece of %d", p, around[v], v)
		}
	}
}

// TestAsMuchAsMayBe has plans at the limits, or near to them.
func TestAsMuchAsMayBe(t *testing.T) {
	full := mesh(16, 32, 5)
	full.Edges = full.Edges[:1024:1024]
	for what, p := range map[string]plan.Plan{"a mesh": full, "another one": renumbered(full, &stirred{7}), "a star": star(511)} {
		if !plan.Right(p) {
			t.Fatalf("%s isn't right", what)
		}
		ringsHold(t, p)
		for i := 0; i < len(p.Vertices); i += 89 {
			id := p.Vertices[i].Id
			leave(t, p, id, out(p, id)...)
		}
		for i, h := range halves(p) {
			if i%97 == 0 {
				follows(t, p, h, next(p, h))
			}
		}
	}
	leave(t, star(511), 1, out(star(511), 1)...)
}

// What all of these promises say of plans that aren't right.

func TestWrongPlans(t *testing.T) {
	spoiled := map[string]func(p *plan.Plan){
		"a vertex 0":                     func(p *plan.Plan) { p.Vertices[0].Id = 0; p.Edges = p.Edges[1:6] },
		"a vertex out of order":          func(p *plan.Plan) { p.Vertices[9].Id = 15 },
		"a vertex too far out":           func(p *plan.Plan) { p.Vertices[9].At.X = far + 1 },
		"a point twice":                  func(p *plan.Plan) { p.Vertices[9].At = at(1, 4) },
		"a vertex on an edge":            func(p *plan.Plan) { p.Vertices[9].At = at(0, 1) },
		"an edge 0":                      func(p *plan.Plan) { p.Edges[0].Id = 0 },
		"an edge out of order":           func(p *plan.Plan) { p.Edges[10].Id = 1 },
		"two edges of one number":        func(p *plan.Plan) { p.Edges[10].Id = 22 },
		"an edge from a vertex to it":    func(p *plan.Plan) { p.Edges[10].B = 14 },
		"an edge to no vertex":           func(p *plan.Plan) { p.Edges[10].B = 11 },
		"the same edge the other way":    func(p *plan.Plan) { p.Edges[10].A, p.Edges[10].B = 2, 9 },
		"edges that cross":               func(p *plan.Plan) { p.Edges[10].A = 9 },
		"no vertices":                    func(p *plan.Plan) { p.Vertices = nil },
		"an edge more than there may be": func(p *plan.Plan) { *p = mesh(16, 32, 5); p.Edges = p.Edges[:1025] },
		"too many vertices":              func(p *plan.Plan) { *p = mesh(27, 19, 1); p.Edges = p.Edges[:20] },
	}
	for what, spoil := range spoiled {
		p := field()
		spoil(&p)
		if plan.Right(p) {
			t.Fatalf("%s is right", what)
		}
		if l := spin.Rings(p); len(l) != 0 {
			t.Errorf("Rings of %s = %v", what, l)
		}
		for id := -1; id < 32; id++ {
			if l := spin.Out(p, id); len(l) != 0 {
				t.Errorf("Out of %s, %d = %v", what, id, l)
			}
			for _, h := range []api.Half{fore(id), back(id)} {
				if a, b, ok := spin.Ends(p, h); ok || a != (api.Vertex{}) || b != (api.Vertex{}) {
					t.Errorf("Ends of %s, %v = %v, %v, %t", what, h, a, b, ok)
				}
				if g, ok := spin.Next(p, h); ok || g != (api.Half{}) {
					t.Errorf("Next of %s, %v = %v, %t", what, h, g, ok)
				}
			}
		}
	}
}

// TestWhatIsHandedInStays has lists with spare room behind them, which no call may
// write into.
func TestWhatIsHandedInStays(t *testing.T) {
	p := field()
	n, m := len(p.Vertices), len(p.Edges)
	more := plan.Plan{Vertices: append(p.Vertices, api.Vertex{Id: 99}), Edges: append(p.Edges, api.Edge{Id: 98})}
	whole := copied(more)
	p = plan.Plan{Vertices: more.Vertices[:n], Edges: more.Edges[:m]}
	holds(t, p)
	if !slices.Equal(more.Vertices, whole.Vertices) || !slices.Equal(more.Edges, whole.Edges) {
		t.Fatal("what was handed in was changed")
	}
}

// TestWhatIsHandedOutIsNew writes into answers, and behind their ends.
func TestWhatIsHandedOutIsNew(t *testing.T) {
	p := field()
	spoil := func(l []api.Half) {
		for i := range l[:cap(l)] {
			l[:cap(l)][i] = fore(77)
		}
	}
	want, round := rings(p), out(p, 2)
	other, l := spin.Rings(p), spin.Rings(p)
	for i := range l {
		spoil(l[i])
		for j := i + 1; j < len(l); j++ {
			if !slices.Equal(l[j], want[j]) {
				t.Fatalf("the ring %d shares memory with the ring %d", j, i)
			}
		}
	}
	first, second := spin.Out(p, 2), spin.Out(p, 2)
	spoil(first)
	if !slices.Equal(second, round) || !alike(other, want) {
		t.Fatal("two answers share memory")
	}
	holds(t, p)
}
