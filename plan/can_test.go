package plan_test

import (
	"math"
	"slices"
	"testing"

	"croft/api"
	"croft/plan"
)

// is fails the test unless a call's answer is the one that is wanted.
func is(t *testing.T, call string, e, want api.Errno) {
	t.Helper()
	if e != want {
		t.Errorf("%s = %d, not %d", call, e, want)
	}
}

// Promise 15.2: whether a right plan may be changed.

func TestCanOfAPlanThatIsNotRight(t *testing.T) {
	spoiled := map[string]func(p *plan.Plan){
		"a vertex 0":                 func(p *plan.Plan) { p.Vertices[0].Id = 0; p.Edges = p.Edges[1:3] },
		"a vertex out of order":      func(p *plan.Plan) { p.Vertices[5].Id = 7 },
		"a vertex too far out":       func(p *plan.Plan) { p.Vertices[5].At.Y = far + 1 },
		"a point twice":              func(p *plan.Plan) { p.Vertices[5].At = at(3, 1) },
		"an edge 0":                  func(p *plan.Plan) { p.Edges[0].Id = 0 },
		"an edge out of order":       func(p *plan.Plan) { p.Edges[4].Id = 3 },
		"an edge of one end":         func(p *plan.Plan) { p.Edges[4].A = 5 },
		"an edge to no vertex":       func(p *plan.Plan) { p.Edges[4].B = 9 },
		"the same edge twice":        func(p *plan.Plan) { p.Edges[4].B = 2 },
		"a vertex on an edge":        func(p *plan.Plan) { p.Vertices[5].At = at(1, 1) },
		"edges that cross":           func(p *plan.Plan) { link(p, 2, 6) },
		"too many vertices":          func(p *plan.Plan) { *p = lattice(27, 19, 4) },
		"too many edges":             func(p *plan.Plan) { *p = lattice(20, 20, 1025) },
		"a plan wrong in many ways":  func(p *plan.Plan) { *p = jumble() },
		"an edge, and no vertices":   func(p *plan.Plan) { p.Vertices = nil },
		"a vertex's number twice":    func(p *plan.Plan) { p.Vertices[1].Id = 1 },
		"an edge behind all of them": func(p *plan.Plan) { p.Edges = append(p.Edges, p.Edges[0]) },
	}
	points := []api.Point{at(9, 9), at(0, 0), at(2, 0), at(2, 2), at(3, 3), at(far+1, 0), at(math.MinInt, math.MaxInt)}
	numbers := []int{-1, 0, 1, 2, 3, 5, 6, 7, 8, 11, 12, math.MaxInt, math.MinInt}
	for what, spoil := range spoiled {
		p := square()
		spoil(&p)
		if right(p) {
			t.Fatalf("%s is right", what)
		}
		for _, at := range points {
			is(t, "CanAdd of "+what, plan.CanAdd(p, at), api.ErrArg)
			for _, n := range numbers {
				is(t, "CanSplit of "+what, plan.CanSplit(p, n, at), api.ErrArg)
			}
		}
		for _, a := range numbers {
			is(t, "CanDrop of "+what, plan.CanDrop(p, a), api.ErrArg)
			is(t, "CanCut of "+what, plan.CanCut(p, a), api.ErrArg)
			for _, b := range numbers {
				is(t, "CanLink of "+what, plan.CanLink(p, a, b), api.ErrArg)
			}
		}
	}
}

// full is a lattice of which the last four vertices stand aside, at lesser X: two
// with the edge 5000 between them, and two alone, all with free ways between them.
func full(columns, rows, count int) plan.Plan {
	p := lattice(columns, rows, count)
	n := len(p.Vertices)
	p.Vertices[n-1].At, p.Vertices[n-2].At = at(-30, 0), at(-30, 40)
	p.Vertices[n-3].At, p.Vertices[n-4].At = at(-40, 0), at(-40, 40)
	p.Edges = slices.DeleteFunc(p.Edges, func(x api.Edge) bool { return max(x.A, x.B) > n-4 })
	p.Edges = append(p.Edges, api.Edge{Id: 5000, A: n - 1, B: n})
	return p
}

// fullVertices has 512 vertices, and not as many edges as may be.
func fullVertices() plan.Plan { return full(16, 32, 900) }

// fullEdges has 1024 edges, and not as many vertices as may be.
func fullEdges() plan.Plan {
	p := full(20, 20, 1121)
	p.Edges = append(p.Edges[:1023], p.Edges[len(p.Edges)-1])
	return p
}

func TestCanAdd(t *testing.T) {
	for _, x := range []struct {
		at   api.Point
		want api.Errno
	}{
		{at(2, 1), api.OK},
		{at(9, 9), api.OK},
		{at(5, 0), api.OK}, // on the straight line of an edge, beyond it
		{at(-1, -1), api.OK},
		{at(far, far), api.OK},
		{at(-far, far), api.OK},
		{at(far+1, 0), api.ErrRange},
		{at(0, -far-1), api.ErrRange},
		{at(far+1, far+1), api.ErrRange}, // on the straight line of the diagonal
		{at(math.MaxInt, math.MinInt), api.ErrRange},
		{at(0, 0), api.ErrThere},
		{at(4, 4), api.ErrThere},
		{at(1, 3), api.ErrThere}, // a vertex alone
		{at(1, 0), api.ErrOn},
		{at(4, 3), api.ErrOn},
		{at(2, 2), api.ErrOn},
	} {
		if e := plan.CanAdd(square(), x.at); e != x.want {
			t.Errorf("CanAdd(%v) = %d, not %d", x.at, e, x.want)
		}
	}
	is(t, "CanAdd to nothing", plan.CanAdd(plan.Plan{}, at(0, 0)), api.OK)
	is(t, "CanAdd to nothing", plan.CanAdd(plan.Plan{}, at(0, far+1)), api.ErrRange)
}

func TestCanAddOneMore(t *testing.T) {
	p := fullVertices()
	isRight(t, "a plan of 512 vertices", p, true)
	is(t, "CanAdd, free", plan.CanAdd(p, at(-1, -1)), api.ErrMany)
	is(t, "CanAdd, too far out", plan.CanAdd(p, at(-1, far+1)), api.ErrRange)
	is(t, "CanAdd, there", plan.CanAdd(p, at(0, 0)), api.ErrThere)
	is(t, "CanAdd, on an edge", plan.CanAdd(p, at(-30, 1)), api.ErrOn)
	p.Vertices = slices.Delete(p.Vertices, 508, 509)
	isRight(t, "a plan of 511 vertices", p, true)
	is(t, "CanAdd, free", plan.CanAdd(p, at(-1, -1)), api.OK)
	is(t, "CanAdd to 1024 edges", plan.CanAdd(fullEdges(), at(-1, -1)), api.OK)
}

func TestCanLink(t *testing.T) {
	for _, x := range []struct {
		a, b int
		want api.Errno
	}{
		{1, 8, api.OK},
		{8, 5, api.OK},
		{2, 8, api.OK},
		{11, 1, api.OK},
		{6, 11, api.OK},
		{1, 1, api.ErrArg},
		{8, 8, api.ErrArg},
		{3, 3, api.ErrArg}, // no vertex
		{0, 0, api.ErrArg},
		{math.MinInt, math.MinInt, api.ErrArg},
		{1, 3, api.ErrNone},
		{3, 1, api.ErrNone},
		{3, 4, api.ErrNone},
		{0, 1, api.ErrNone},
		{1, -1, api.ErrNone},
		{12, 11, api.ErrNone},
		{math.MaxInt, math.MinInt, api.ErrNone},
		{1, 2, api.ErrThere},
		{2, 1, api.ErrThere},
		{5, 6, api.ErrThere},
		{6, 5, api.ErrThere},
		{5, 1, api.ErrThere},
		{2, 6, api.ErrOn}, // two vertices alone, and the diagonal, are in the way
		{6, 2, api.ErrOn},
		{8, 6, api.ErrOn},
		{8, 11, api.ErrCross},
		{11, 2, api.ErrOn},
	} {
		if e := plan.CanLink(square(), x.a, x.b); e != x.want {
			t.Errorf("CanLink(%d, %d) = %d, not %d", x.a, x.b, e, x.want)
		}
	}
	is(t, "CanLink of nothing", plan.CanLink(plan.Plan{}, 1, 1), api.ErrArg)
	is(t, "CanLink of nothing", plan.CanLink(plan.Plan{}, 1, 2), api.ErrNone)
	line := plan.Plan{Vertices: vertices(at(0, 0), at(4, 0), at(2, 0))}
	is(t, "CanLink over a vertex", plan.CanLink(line, 1, 2), api.ErrOn)
	is(t, "CanLink up to it", plan.CanLink(line, 1, 3), api.OK)
	is(t, "CanLink over an edge", plan.CanLink(linked(line, 1, 3), 1, 2), api.ErrOn)
	is(t, "CanLink behind an edge", plan.CanLink(linked(line, 1, 3), 3, 2), api.OK)
}

func TestCanLinkOneMore(t *testing.T) {
	p := fullEdges()
	isRight(t, "a plan of 1024 edges", p, true)
	n := len(p.Vertices)
	is(t, "CanLink, free", plan.CanLink(p, n-2, n-3), api.ErrMany)
	is(t, "CanLink, there", plan.CanLink(p, n, n-1), api.ErrThere)
	is(t, "CanLink, one end", plan.CanLink(p, n, n), api.ErrArg)
	is(t, "CanLink, no vertex", plan.CanLink(p, n, n+1), api.ErrNone)
	is(t, "CanLink over vertices", plan.CanLink(p, 1, 10), api.ErrOn)
	is(t, "CanLink across an edge", plan.CanLink(p, n-2, 11), api.ErrCross)
	p.Edges = p.Edges[1:]
	isRight(t, "a plan of 1023 edges", p, true)
	is(t, "CanLink, free", plan.CanLink(p, n-2, n-3), api.OK)
	q := fullVertices()
	is(t, "CanLink of 512 vertices", plan.CanLink(q, 510, 509), api.OK)
}

func TestCanSplit(t *testing.T) {
	for _, x := range []struct {
		edge int
		at   api.Point
		want api.Errno
	}{
		{2, at(1, 0), api.OK},
		{2, at(3, 0), api.OK},
		{8, at(0, 2), api.OK},
		{12, at(2, 2), api.OK},
		{1, at(1, 0), api.ErrNone},
		{0, at(1, 0), api.ErrNone},
		{-2, at(1, 0), api.ErrNone},
		{13, at(far+1, 0), api.ErrNone},
		{math.MaxInt, at(0, 0), api.ErrNone},
		{math.MinInt, at(9, 9), api.ErrNone},
		{2, at(0, 0), api.ErrArg}, // its ends
		{2, at(4, 0), api.ErrArg},
		{2, at(5, 0), api.ErrArg}, // beyond it
		{2, at(-1, 0), api.ErrArg},
		{2, at(2, 1), api.ErrArg}, // beside it
		{2, at(2, -1), api.ErrArg},
		{2, at(2, 2), api.ErrArg}, // on another edge
		{12, at(2, 0), api.ErrArg},
		{12, at(1, 3), api.ErrArg}, // a vertex
		{12, at(far+1, far+1), api.ErrArg},
		{2, at(math.MinInt, 0), api.ErrArg},
	} {
		if e := plan.CanSplit(square(), x.edge, x.at); e != x.want {
			t.Errorf("CanSplit(%d, %v) = %d, not %d", x.edge, x.at, e, x.want)
		}
	}
	is(t, "CanSplit of nothing", plan.CanSplit(plan.Plan{}, 1, at(0, 0)), api.ErrNone)
	is(t, "CanSplit of nothing", plan.CanSplit(plan.Plan{}, 0, at(0, 0)), api.ErrNone)
}

func TestCanSplitOneMore(t *testing.T) {
	for what, p := range map[string]plan.Plan{"512 vertices": fullVertices(), "1024 edges": fullEdges()} {
		isRight(t, what, p, true)
		is(t, "CanSplit of "+what, plan.CanSplit(p, 5000, at(-30, 20)), api.ErrMany)
		is(t, "CanSplit at an end of "+what, plan.CanSplit(p, 5000, at(-30, 40)), api.ErrArg)
		is(t, "CanSplit of no edge of "+what, plan.CanSplit(p, 5001, at(-30, 20)), api.ErrNone)
	}
	p := fullVertices()
	p.Vertices = slices.Delete(p.Vertices, 508, 509)
	is(t, "CanSplit of 511 vertices", plan.CanSplit(p, 5000, at(-30, 20)), api.OK)
	p = fullEdges()
	p.Edges = p.Edges[1:]
	is(t, "CanSplit of 1023 edges", plan.CanSplit(p, 5000, at(-30, 20)), api.OK)
}

func TestCanDrop(t *testing.T) {
	for _, x := range []struct {
		id   int
		want api.Errno
	}{
		{8, api.OK}, {11, api.OK},
		{1, api.ErrDegree}, {2, api.ErrDegree}, {5, api.ErrDegree}, {6, api.ErrDegree},
		{3, api.ErrNone}, {0, api.ErrNone}, {-8, api.ErrNone}, {12, api.ErrNone}, {math.MaxInt, api.ErrNone}, {math.MinInt, api.ErrNone},
	} {
		if e := plan.CanDrop(square(), x.id); e != x.want {
			t.Errorf("CanDrop(%d) = %d, not %d", x.id, e, x.want)
		}
	}
	one := plan.Plan{Vertices: vertices(at(0, 0), at(4, 0), at(9, 9)), Edges: edges([2]int{2, 1})}
	is(t, "CanDrop where an edge ends", plan.CanDrop(one, 1), api.ErrDegree)
	is(t, "CanDrop where an edge begins", plan.CanDrop(one, 2), api.ErrDegree)
	is(t, "CanDrop of a vertex alone", plan.CanDrop(one, 3), api.OK)
	is(t, "CanDrop of nothing", plan.CanDrop(plan.Plan{}, 1), api.ErrNone)
	is(t, "CanDrop of a plan with all vertices", plan.CanDrop(lattice(16, 32, 0), 512), api.OK)
}

func TestCanCut(t *testing.T) {
	for _, x := range []struct {
		id   int
		want api.Errno
	}{
		{2, api.OK}, {3, api.OK}, {7, api.OK}, {8, api.OK}, {12, api.OK},
		{1, api.ErrNone}, {0, api.ErrNone}, {-2, api.ErrNone}, {13, api.ErrNone}, {math.MaxInt, api.ErrNone}, {math.MinInt, api.ErrNone},
	} {
		if e := plan.CanCut(square(), x.id); e != x.want {
			t.Errorf("CanCut(%d) = %d, not %d", x.id, e, x.want)
		}
	}
	is(t, "CanCut of nothing", plan.CanCut(plan.Plan{}, 1), api.ErrNone)
	is(t, "CanCut of a plan with all edges", plan.CanCut(lattice(16, 32, 1024), 1024), api.OK)
}

// Promise 15.3: what may be done makes a right plan, what may not be makes none.

// makes fails the test unless a call answers that, and what would be made is a
// right plan just if it is OK; by is the plan behind the change.
func makes(t *testing.T, call string, p plan.Plan, e, want api.Errno, by plan.Plan) {
	t.Helper()
	if e != want {
		t.Fatalf("%s of %v = %d, not %d", call, p, e, want)
	}
	if made := plan.Right(by); made != (e == api.OK) || made != right(by) {
		t.Fatalf("%s of %v = %d, but Right of what it makes, %v, is %t", call, p, e, by, made)
	}
}

// tryAll asks of a right plan whether each change may be, at all these points,
// of all these numbers.
func tryAll(t *testing.T, p plan.Plan, points []api.Point, numbers []int) {
	t.Helper()
	before := copied(p)
	for _, at := range points {
		makes(t, "CanAdd", p, plan.CanAdd(p, at), canAdd(p, at), added(p, at))
	}
	for i, a := range numbers {
		for _, b := range numbers[i:] {
			makes(t, "CanLink", p, plan.CanLink(p, a, b), canLink(p, a, b), linked(p, a, b))
			makes(t, "CanLink", p, plan.CanLink(p, b, a), canLink(p, b, a), linked(p, b, a))
		}
	}
	for _, id := range numbers {
		trySplits(t, p, id, points)
		if e := plan.CanDrop(p, id); hasVertex(p, id) {
			makes(t, "CanDrop", p, e, canDrop(p, id), dropped(p, id))
		} else {
			is(t, "CanDrop", e, api.ErrNone)
		}
		if e := plan.CanCut(p, id); hasEdge(p, id) {
			makes(t, "CanCut", p, e, canCut(p, id), cut(p, id))
		} else {
			is(t, "CanCut", e, api.ErrNone)
		}
	}
	if !alike(p, before) {
		t.Fatalf("the plan %v was changed", before)
	}
}

// trySplits asks whether an edge may be parted at each of the points; no plan is
// held against an answer of a point that isn't on it, as it isn't parted then.
func trySplits(t *testing.T, p plan.Plan, edge int, points []api.Point) {
	t.Helper()
	for _, at := range points {
		e, want := plan.CanSplit(p, edge, at), canSplit(p, edge, at)
		if e == api.OK {
			makes(t, "CanSplit", p, e, want, split(p, edge, at))
		} else if e != want {
			t.Fatalf("CanSplit(%v, %d, %v) = %d, not %d", p, edge, at, e, want)
		}
	}
}

func TestAllChangesOfAllSmallPlans(t *testing.T) {
	points := grid([]int{0, 1, 2}, []int{0, 1, 2})
	tried := 0
	try := func(p plan.Plan) {
		if right(p) {
			tryAll(t, p, points, []int{0, 1, 2, 3, 4, 5})
			tried++
		}
	}
	for n := range 5 {
		plans(points, n, try)
	}
	if tried < 1000 {
		t.Errorf("%d plans were tried", tried)
	}
}

func TestAllChangesOfFarPlans(t *testing.T) {
	corners := grid([]int{-far, 0, far}, []int{-far, far - 1, far})
	points := append(grid([]int{-far - 1, -far, 0, 1, far}, []int{-far - 1, -far, 0, far, far + 1}), at(1-far, 1-far), at(far/2, far/2), at(0, far-1))
	plans(corners, 3, func(p plan.Plan) {
		if right(p) {
			tryAll(t, p, points, []int{1, 2, 3})
		}
	})
}

// TestRowsOfChanges goes on and on from nothing, by changes that may be, beside
// many that may not.
func TestRowsOfChanges(t *testing.T) {
	for seed := range uint64(30) {
		s := &stirred{seed}
		points := grid([]int{0, 1, 2, 3, 4, 6}, []int{0, 1, 2, 3, 5})
		var p plan.Plan
		counts := map[api.Errno]int{}
		for range 600 {
			point := points[s.below(len(points))]
			a, b := s.below(lastVertex(p)+2), s.below(lastVertex(p)+2)
			edge := s.below(lastEdge(p) + 2)
			var e, want api.Errno
			var q plan.Plan
			switch s.below(8) {
			case 0, 1:
				e, want, q = plan.CanAdd(p, point), canAdd(p, point), added(p, point)
			case 2:
				e, want = plan.CanSplit(p, edge, point), canSplit(p, edge, point)
				if want == api.OK {
					q = split(p, edge, point)
				}
			case 3:
				e, want, q = plan.CanDrop(p, a), canDrop(p, a), dropped(p, a)
			case 4:
				e, want, q = plan.CanCut(p, edge), canCut(p, edge), cut(p, edge)
			default:
				e, want, q = plan.CanLink(p, a, b), canLink(p, a, b), linked(p, a, b)
			}
			if e != want {
				t.Fatalf("seed %d: %v: %d, not %d", seed, p, e, want)
			}
			counts[e]++
			if e == api.OK {
				p = q
			}
			if !plan.Right(p) {
				t.Fatalf("seed %d: %v isn't right", seed, p)
			}
		}
		if counts[api.OK] < 50 || len(counts) < 6 {
			t.Errorf("seed %d: %v", seed, counts)
		}
	}
}

// TestWhatIsHandedInStays has lists with spare room behind them, which no call
// may write into.
func TestWhatIsHandedInStays(t *testing.T) {
	p := square()
	vertices, edges := append(p.Vertices, api.Vertex{Id: 99}), append(p.Edges, api.Edge{Id: 98})
	p = plan.Plan{Vertices: vertices[:6], Edges: edges[:5]}
	whole := copied(plan.Plan{Vertices: vertices, Edges: edges})
	for range 2 {
		isRight(t, "a square", p, true)
		is(t, "CanAdd", plan.CanAdd(p, at(9, 9)), api.OK)
		is(t, "CanLink", plan.CanLink(p, 1, 8), api.OK)
		is(t, "CanSplit", plan.CanSplit(p, 2, at(1, 0)), api.OK)
		is(t, "CanDrop", plan.CanDrop(p, 8), api.OK)
		is(t, "CanCut", plan.CanCut(p, 2), api.OK)
		if !alike(plan.Plan{Vertices: vertices, Edges: edges}, whole) {
			t.Fatal("what was handed in was changed")
		}
	}
}
