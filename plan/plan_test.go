package plan_test

import (
	"math"
	"slices"
	"testing"

	"croft/api"
	"croft/plan"
)

// vertices are vertices at these points, with the numbers 1, 2 and so on.
func vertices(points ...api.Point) []api.Vertex {
	var out []api.Vertex
	for i, p := range points {
		out = append(out, api.Vertex{Id: i + 1, At: p})
	}
	return out
}

// edges are edges between these vertices, with the numbers 1, 2 and so on.
func edges(pairs ...[2]int) []api.Edge {
	var out []api.Edge
	for i, x := range pairs {
		out = append(out, api.Edge{Id: i + 1, A: x[0], B: x[1]})
	}
	return out
}

// square is a square of side 4, with numbers left out, its diagonal, and a vertex
// alone in each half of it.
func square() plan.Plan {
	return plan.Plan{
		Vertices: []api.Vertex{{Id: 1, At: at(0, 0)}, {Id: 2, At: at(4, 0)}, {Id: 5, At: at(4, 4)}, {Id: 6, At: at(0, 4)}, {Id: 8, At: at(3, 1)}, {Id: 11, At: at(1, 3)}},
		Edges:    []api.Edge{{Id: 2, A: 1, B: 2}, {Id: 3, A: 2, B: 5}, {Id: 7, A: 6, B: 5}, {Id: 8, A: 6, B: 1}, {Id: 12, A: 1, B: 5}},
	}
}

// lattice is a right plan of so many columns and rows of vertices, and as many
// edges as are asked for: first those up, then those to the right, then those
// across.
func lattice(columns, rows, count int) plan.Plan {
	id := func(x, y int) int { return 1 + x*rows + y }
	var p plan.Plan
	var up, right, across [][2]int
	for x := range columns {
		for y := range rows {
			p.Vertices = append(p.Vertices, api.Vertex{Id: id(x, y), At: at(10*x, 10*y)})
			if y+1 < rows {
				up = append(up, [2]int{id(x, y), id(x, y+1)})
			}
			if x+1 < columns {
				right = append(right, [2]int{id(x, y), id(x+1, y)})
			}
			if x+1 < columns && y+1 < rows {
				across = append(across, [2]int{id(x, y), id(x+1, y+1)})
			}
		}
	}
	p.Edges = edges(slices.Concat(up, right, across)[:count]...)
	return p
}

// fan is a right plan of edges from one vertex to n others, all of whose boxes
// overlap.
func fan(n int) plan.Plan {
	p := plan.Plan{Vertices: vertices(at(0, 0))}
	for i := range n {
		p.Vertices = append(p.Vertices, api.Vertex{Id: 2 + i, At: at(far-i, far/2+i)})
		p.Edges = append(p.Edges, api.Edge{Id: 1 + i, A: 1, B: 2 + i})
	}
	return p
}

// isRight fails the test unless Right answers that, and leaves the plan alone.
func isRight(t *testing.T, what string, p plan.Plan, want bool) {
	t.Helper()
	before := copied(p)
	if got := plan.Right(p); got != want {
		t.Errorf("Right of %s = %t", what, got)
	}
	if !alike(p, before) {
		t.Errorf("Right changed %s", what)
	}
}

// Promise 15.1: Right.

func TestRight(t *testing.T) {
	isRight(t, "nothing", plan.Plan{}, true)
	isRight(t, "empty lists", plan.Plan{Vertices: []api.Vertex{}, Edges: []api.Edge{}}, true)
	isRight(t, "one vertex", plan.Plan{Vertices: vertices(at(7, -7))}, true)
	isRight(t, "a square", square(), true)
	isRight(t, "one edge", plan.Plan{Vertices: vertices(at(0, 0), at(4, 2)), Edges: edges([2]int{2, 1})}, true)
	isRight(t, "edges on one straight line", plan.Plan{Vertices: vertices(at(0, 0), at(2, 2), at(4, 4)), Edges: edges([2]int{1, 2}, [2]int{2, 3})}, true)
	isRight(t, "a gap on one straight line", plan.Plan{Vertices: vertices(at(0, 0), at(2, 0), at(3, 0), at(9, 0)), Edges: edges([2]int{1, 2}, [2]int{4, 3})}, true)
	isRight(t, "the greatest numbers", plan.Plan{
		Vertices: []api.Vertex{{Id: 1, At: at(0, 0)}, {Id: math.MaxInt, At: at(1, 1)}},
		Edges:    []api.Edge{{Id: math.MaxInt, A: math.MaxInt, B: 1}},
	}, true)
	isRight(t, "the ends of the range", plan.Plan{
		Vertices: vertices(at(-far, -far), at(far, -far), at(far, far), at(-far, far), at(0, 1)),
		Edges:    edges([2]int{1, 2}, [2]int{2, 3}, [2]int{3, 4}, [2]int{4, 1}, [2]int{3, 1}),
	}, true)
}

// TestWrong has a right plan broken in each way that is told, and in no other.
func TestWrong(t *testing.T) {
	type fault struct {
		what  string
		spoil func(p *plan.Plan)
	}
	faults := []fault{
		{"a vertex 0", func(p *plan.Plan) { p.Vertices = slices.Insert(p.Vertices, 0, api.Vertex{Id: 0, At: at(9, 9)}) }},
		{"a vertex -1", func(p *plan.Plan) { p.Vertices = slices.Insert(p.Vertices, 0, api.Vertex{Id: -1, At: at(9, 9)}) }},
		{"a vertex that isn't in order", func(p *plan.Plan) { p.Vertices = append(p.Vertices, api.Vertex{Id: 9, At: at(9, 9)}) }},
		{"two vertices of one number", func(p *plan.Plan) { p.Vertices = append(p.Vertices, api.Vertex{Id: 11, At: at(9, 9)}) }},
		{"the same vertex twice", func(p *plan.Plan) { p.Vertices = append(p.Vertices, p.Vertices[5]) }},
		{"vertices that fall", func(p *plan.Plan) { slices.Reverse(p.Vertices) }},
		{"an edge 0", func(p *plan.Plan) { p.Edges[0].Id = 0 }},
		{"an edge -1", func(p *plan.Plan) { p.Edges[0].Id = -1 }},
		{"an edge that isn't in order", func(p *plan.Plan) { p.Edges[4].Id = 4 }},
		{"two edges of one number", func(p *plan.Plan) { p.Edges[4].Id = 8 }},
		{"edges that fall", func(p *plan.Plan) { slices.Reverse(p.Edges) }},
		{"a point twice, alone", func(p *plan.Plan) { p.Vertices[5].At = at(3, 1) }},
		{"a point twice, of an edge", func(p *plan.Plan) { p.Vertices[5].At = at(4, 4) }},
		{"an edge from a vertex to itself", func(p *plan.Plan) { p.Edges[4].B = 1 }},
		{"an edge from a vertex alone to itself", func(p *plan.Plan) { p.Edges[4].A, p.Edges[4].B = 8, 8 }},
		{"an edge from no vertex", func(p *plan.Plan) { p.Edges[4].A = 3 }},
		{"an edge to no vertex", func(p *plan.Plan) { p.Edges[4].B = 12 }},
		{"an edge to the vertex 0", func(p *plan.Plan) { p.Edges[4].B = 0 }},
		{"an edge from no vertex to none", func(p *plan.Plan) { p.Edges[4].A, p.Edges[4].B = 3, 4 }},
		{"the same edge twice", func(p *plan.Plan) { p.Edges[4].A, p.Edges[4].B = 1, 2 }},
		{"the same edge the other way", func(p *plan.Plan) { p.Edges[4].A, p.Edges[4].B = 2, 1 }},
		{"a vertex alone on an edge", func(p *plan.Plan) { p.Vertices[5].At = at(0, 1) }},
		{"a vertex alone on an edge across", func(p *plan.Plan) { p.Vertices[5].At = at(3, 3) }},
		{"a vertex with an edge on another", func(p *plan.Plan) {
			p.Vertices[5].At = at(2, 2)
			p.Edges[4] = api.Edge{Id: 12, A: 1, B: 5}
			link(p, 11, 6)
		}},
		{"edges that cross", func(p *plan.Plan) { link(p, 2, 6) }},
		{"edges that cross, one behind the other", func(p *plan.Plan) { link(p, 8, 11) }},
		{"an edge on a part of another", func(p *plan.Plan) { p.Vertices[5].At = at(2, 2); p.Edges[4].B = 11; link(p, 1, 5) }},
	}
	for _, n := range []int{far + 1, -far - 1, math.MaxInt, math.MinInt} {
		faults = append(faults,
			fault{"a vertex too far to a side", func(p *plan.Plan) { p.Vertices[5].At.X = n }},
			fault{"a vertex too far up or down", func(p *plan.Plan) { p.Vertices[5].At.Y = n }},
			fault{"a vertex with edges too far to a side", func(p *plan.Plan) { p.Vertices[2].At.X = n }},
			fault{"a vertex with edges too far up or down", func(p *plan.Plan) { p.Vertices[2].At.Y = n }})
	}
	for _, f := range faults {
		p := square()
		isRight(t, "a square", p, true)
		f.spoil(&p)
		isRight(t, f.what, p, false)
	}
}

// link puts an edge more into a plan.
func link(p *plan.Plan, a, b int) { *p = linked(*p, a, b) }

func TestAsManyAsMayBe(t *testing.T) {
	full := lattice(16, 32, 1024)
	if len(full.Vertices) != 512 || len(full.Edges) != 1024 || !right(full) {
		t.Fatalf("the lattice has %d vertices and %d edges", len(full.Vertices), len(full.Edges))
	}
	isRight(t, "512 vertices and 1024 edges", full, true)
	isRight(t, "a vertex more", added(full, at(-5, -5)), false)
	isRight(t, "an edge more", lattice(16, 32, 1025), false)
	isRight(t, "1024 edges of 400 vertices", lattice(20, 20, 1024), true)
	isRight(t, "1025 edges of 400 vertices", lattice(20, 20, 1025), false)
	isRight(t, "512 vertices without edges", lattice(16, 32, 0), true)
	isRight(t, "513 vertices without edges", lattice(27, 19, 0), false)
	isRight(t, "a lattice of 60000 vertices", lattice(200, 300, 0), false)
	isRight(t, "511 edges from one vertex", fan(511), true)
	isRight(t, "512 edges from one vertex", fan(512), false)
	// Of so many, one that is wrong is found wherever it stands.
	for i := 0; i < 1024; i += 93 {
		p := copied(full)
		p.Edges[i].A, p.Edges[i].B = 1, 512
		isRight(t, "a lattice with an edge across all", p, false)
		p = copied(full)
		p.Vertices[i/2].At.X += 9
		isRight(t, "a lattice with a vertex moved", p, right(p))
		p = copied(full)
		p.Vertices[i/2].At = full.Vertices[(i/2+7)%512].At
		isRight(t, "a lattice with two vertices at one point", p, false)
	}
}

// choose calls do with all choices of n of the points, in their order.
func choose(points []api.Point, n int, do func(l []api.Point)) {
	var rest func(l, points []api.Point)
	rest = func(l, points []api.Point) {
		if len(l) == n {
			do(l)
			return
		}
		for i, p := range points {
			rest(append(l, p), points[i+1:])
		}
	}
	rest(nil, points)
}

// pairs are all pairs of the numbers from 1 to n, in turn the one way and the
// other.
func pairs(n int) [][2]int {
	var out [][2]int
	for a := 1; a <= n; a++ {
		for b := a + 1; b <= n; b++ {
			if len(out)%2 == 0 {
				out = append(out, [2]int{a, b})
			} else {
				out = append(out, [2]int{b, a})
			}
		}
	}
	return out
}

// grid are all points whose X are among the first, and whose Y are among the
// second.
func grid(xs, ys []int) []api.Point {
	var out []api.Point
	for _, x := range xs {
		for _, y := range ys {
			out = append(out, at(x, y))
		}
	}
	return out
}

// plans calls do with all plans that have n vertices at the points, and any
// edges between them.
func plans(points []api.Point, n int, do func(p plan.Plan)) {
	all := pairs(n)
	choose(points, n, func(l []api.Point) {
		for set := range 1 << len(all) {
			var chosen [][2]int
			for i, x := range all {
				if set>>i&1 == 1 {
					chosen = append(chosen, x)
				}
			}
			do(plan.Plan{Vertices: vertices(l...), Edges: edges(chosen...)})
		}
	})
}

func TestRightOfAllSmallPlans(t *testing.T) {
	wrong, good := 0, 0
	try := func(p plan.Plan) {
		want := right(p)
		if got := plan.Right(p); got != want {
			t.Fatalf("Right(%v) = %t", p, got)
		}
		if want {
			good++
		} else {
			wrong++
		}
	}
	small := []int{0, 1, 2}
	plans(grid(small, small), 3, try)
	plans(grid([]int{0, 1, 2, 3}, small), 4, try)
	plans(grid([]int{-far, 0, far}, []int{-far, 1 - far, far}), 4, try)
	plans(grid(small, small), 5, try)
	if good < 10000 || wrong < 10000 {
		t.Errorf("%d plans are right, %d aren't", good, wrong)
	}
}

// stirred are numbers that follow from a seed alone, with no pattern in them.
type stirred struct{ seed uint64 }

// below answers a number from 0 to n - 1.
func (s *stirred) below(n int) int {
	s.seed = s.seed*6364136223846793005 + 1442695040888963407
	return int(s.seed >> 33 % uint64(n))
}

func TestRightOfSpoiledPlans(t *testing.T) {
	s := &stirred{1}
	values := []int{-1, 0, 1, 2, 3, 4, 5, 6, 7, 8, 11, 12, 13, far, far + 1, -far, -far - 1}
	good := 0
	for range 40000 {
		p := square()
		for range 1 + s.below(3) {
			v, x := &p.Vertices[s.below(6)], &p.Edges[s.below(5)]
			fields := []*int{&v.Id, &v.At.X, &v.At.Y, &x.Id, &x.A, &x.B}
			*fields[s.below(len(fields))] = values[s.below(len(values))]
		}
		want := right(p)
		if plan.Right(p) != want {
			t.Fatalf("Right(%v) = %t", p, !want)
		}
		if want {
			good++
		}
	}
	if good < 2000 || good > 38000 {
		t.Errorf("%d plans are right", good)
	}
}

// TestNearMisses has lines so long that they miss, or meet, by the least there is.
func TestNearMisses(t *testing.T) {
	long := [2]api.Point{at(-far, -far), at(far, far-1)}
	for _, x := range []struct {
		what   string
		points []api.Point
		want   bool
	}{
		{"a vertex just above", []api.Point{at(0, 0)}, true},
		{"a vertex just below", []api.Point{at(0, -1)}, true},
		{"a line just above", []api.Point{at(0, 0), at(0, far)}, true},
		{"a line across by one", []api.Point{at(0, -1), at(0, 0)}, false},
		{"a line from the end on", []api.Point{at(far-1, far-2), at(far, far-2)}, true},
		{"a line just past the end", []api.Point{at(far-1, far), at(far, far)}, true},
		{"a line just short of the end", []api.Point{at(far-1, far-1), at(far, far-2)}, false},
	} {
		p := plan.Plan{Vertices: vertices(append(long[:], x.points...)...), Edges: edges([2]int{1, 2})}
		if len(x.points) == 2 {
			p = linked(p, 3, 4)
		}
		if right(p) != x.want {
			t.Fatalf("%s: the model says %t", x.what, !x.want)
		}
		isRight(t, x.what, p, x.want)
	}
}

// Promise 15.1: Vertex, Edge, Degree.

// jumble is a plan that isn't right in any way: of numbers that stand twice the
// first ones count.
func jumble() plan.Plan {
	return plan.Plan{
		Vertices: []api.Vertex{{Id: 7, At: at(1, 2)}, {Id: -3, At: at(far+9, 0)}, {Id: 7, At: at(5, 6)}, {Id: 0, At: at(1, 2)}, {Id: math.MaxInt, At: at(3, 3)}, {Id: -3, At: at(0, 0)}},
		Edges:    []api.Edge{{Id: 4, A: 7, B: 7}, {Id: 0, A: 9, B: 7}, {Id: 4, A: -3, B: 9}, {Id: -1, A: 0, B: 0}, {Id: math.MinInt, A: 9, B: 9}},
	}
}

func TestVertex(t *testing.T) {
	for _, x := range []struct {
		p    plan.Plan
		id   int
		want api.Vertex
		ok   bool
	}{
		{square(), 1, api.Vertex{Id: 1, At: at(0, 0)}, true},
		{square(), 5, api.Vertex{Id: 5, At: at(4, 4)}, true},
		{square(), 11, api.Vertex{Id: 11, At: at(1, 3)}, true},
		{square(), 3, api.Vertex{}, false},
		{square(), 0, api.Vertex{}, false},
		{square(), -1, api.Vertex{}, false},
		{square(), 12, api.Vertex{}, false},
		{square(), math.MaxInt, api.Vertex{}, false},
		{square(), math.MinInt, api.Vertex{}, false},
		{plan.Plan{}, 1, api.Vertex{}, false},
		{plan.Plan{}, 0, api.Vertex{}, false},
		{jumble(), 7, api.Vertex{Id: 7, At: at(1, 2)}, true},
		{jumble(), -3, api.Vertex{Id: -3, At: at(far+9, 0)}, true},
		{jumble(), 0, api.Vertex{Id: 0, At: at(1, 2)}, true},
		{jumble(), math.MaxInt, api.Vertex{Id: math.MaxInt, At: at(3, 3)}, true},
		{jumble(), 4, api.Vertex{}, false},
	} {
		if got, ok := plan.Vertex(x.p, x.id); got != x.want || ok != x.ok {
			t.Errorf("Vertex(%v, %d) = %v, %t", x.p, x.id, got, ok)
		}
	}
}

func TestEdge(t *testing.T) {
	for _, x := range []struct {
		p    plan.Plan
		id   int
		want api.Edge
		ok   bool
	}{
		{square(), 2, api.Edge{Id: 2, A: 1, B: 2}, true},
		{square(), 7, api.Edge{Id: 7, A: 6, B: 5}, true},
		{square(), 12, api.Edge{Id: 12, A: 1, B: 5}, true},
		{square(), 1, api.Edge{}, false},
		{square(), 0, api.Edge{}, false},
		{square(), -2, api.Edge{}, false},
		{square(), 13, api.Edge{}, false},
		{square(), math.MaxInt, api.Edge{}, false},
		{square(), math.MinInt, api.Edge{}, false},
		{plan.Plan{}, 1, api.Edge{}, false},
		{plan.Plan{}, 0, api.Edge{}, false},
		{jumble(), 4, api.Edge{Id: 4, A: 7, B: 7}, true},
		{jumble(), 0, api.Edge{Id: 0, A: 9, B: 7}, true},
		{jumble(), -1, api.Edge{Id: -1, A: 0, B: 0}, true},
		{jumble(), math.MinInt, api.Edge{Id: math.MinInt, A: 9, B: 9}, true},
		{jumble(), 7, api.Edge{}, false},
	} {
		if got, ok := plan.Edge(x.p, x.id); got != x.want || ok != x.ok {
			t.Errorf("Edge(%v, %d) = %v, %t", x.p, x.id, got, ok)
		}
	}
}

func TestDegree(t *testing.T) {
	for _, x := range []struct {
		what     string
		p        plan.Plan
		id, want int
	}{
		{"a corner with the diagonal", square(), 1, 3},
		{"a corner without it", square(), 2, 2},
		{"a corner that two edges leave", square(), 6, 2},
		{"a corner to which three lead", square(), 5, 3},
		{"a vertex alone", square(), 8, 0},
		{"no vertex, but an edge", square(), 7, 0},
		{"no vertex", square(), 0, 0},
		{"no vertex", square(), math.MinInt, 0},
		{"no plan", plan.Plan{}, 1, 0},
		{"edges of both ends and of one", jumble(), 7, 3},
		{"no vertex, but ends", jumble(), 9, 4},
		{"both ends of one edge", jumble(), 0, 2},
		{"one end", jumble(), -3, 1},
		{"the middle of a fan", fan(511), 1, 511},
		{"the middle of a fan that is too great", fan(2000), 1, 2000},
		{"the rim of a fan", fan(511), 512, 1},
	} {
		if got := plan.Degree(x.p, x.id); got != x.want {
			t.Errorf("Degree of %s, %d = %d, not %d", x.what, x.id, got, x.want)
		}
	}
}
