package plan_test

import (
	"slices"

	"croft/api"
	"croft/plan"
)

const far = api.Max

func at(x, y int) api.Point { return api.Point{X: x, Y: y} }

// Here is told without the program what a right plan is, by the words of the
// chapter: nothing of layers 5 and 15 is called. Points must be so near that
// products of their gaps fit, as all in range are.

// cross is twice the area of the triangle o, a, b: above 0, if b is on the left.
func cross(o, a, b api.Point) int { return (a.X-o.X)*(b.Y-o.Y) - (a.Y-o.Y)*(b.X-o.X) }

// dot is above 0, if a and b are seen from o in directions less than a quarter
// apart.
func dot(o, a, b api.Point) int { return (a.X-o.X)*(b.X-o.X) + (a.Y-o.Y)*(b.Y-o.Y) }

// inside tells whether p is on the line between a and b, but no end of it: there
// alone both ends are seen in opposite directions.
func inside(p, a, b api.Point) bool { return cross(p, a, b) == 0 && dot(p, a, b) < 0 }

// common tells whether two lines have a point in common that isn't an end of
// both, by how far along each of them it is.
func common(a, b, c, d api.Point) bool {
	den := (b.X-a.X)*(d.Y-c.Y) - (b.Y-a.Y)*(d.X-c.X)
	if den == 0 {
		return cross(a, b, c) == 0 && overlap(a, b, c, d)
	}
	// The first line is gone along by one through den, and so is the second.
	one := (c.X-a.X)*(d.Y-c.Y) - (c.Y-a.Y)*(d.X-c.X)
	two := (c.X-a.X)*(b.Y-a.Y) - (c.Y-a.Y)*(b.X-a.X)
	if den < 0 {
		den, one, two = -den, -one, -two
	}
	if one < 0 || one > den || two < 0 || two > den {
		return false
	}
	return one != 0 && one != den || two != 0 && two != den
}

// overlap tells whether two lines on one straight line have more in common than
// a point.
func overlap(a, b, c, d api.Point) bool {
	return inside(a, c, d) || inside(b, c, d) || inside(c, a, b) || inside(d, a, b) || a == c && b == d || a == d && b == c
}

// inRange tells whether both coordinates are from -2^28 to 2^28.
func inRange(p api.Point) bool {
	const most = 268435456
	return p.X >= -most && p.X <= most && p.Y >= -most && p.Y <= most
}

// where answers where the vertex of a number is.
func where(p plan.Plan, id int) (api.Point, bool) {
	i := slices.IndexFunc(p.Vertices, func(v api.Vertex) bool { return v.Id == id })
	if i < 0 {
		return api.Point{}, false
	}
	return p.Vertices[i].At, true
}

// rightVertices tells whether all holds that is said of vertices alone.
func rightVertices(p plan.Plan) bool {
	for i, v := range p.Vertices {
		if v.Id < 1 || !inRange(v.At) {
			return false
		}
		for _, w := range p.Vertices[:i] {
			if w.Id >= v.Id || w.At == v.At {
				return false
			}
		}
	}
	return len(p.Vertices) <= 512
}

// rightEdges tells whether all holds that is said of edges, where the vertices
// are right.
func rightEdges(p plan.Plan) bool {
	for i, x := range p.Edges {
		a, hasA := where(p, x.A)
		b, hasB := where(p, x.B)
		if x.Id < 1 || !hasA || !hasB || x.A == x.B {
			return false
		}
		for _, v := range p.Vertices {
			if inside(v.At, a, b) {
				return false
			}
		}
		for _, y := range p.Edges[:i] {
			c, _ := where(p, y.A)
			d, _ := where(p, y.B)
			twice := y.A == x.A && y.B == x.B || y.A == x.B && y.B == x.A
			if y.Id >= x.Id || twice || common(a, b, c, d) {
				return false
			}
		}
	}
	return len(p.Edges) <= 1024
}

// right tells whether a plan is right.
func right(p plan.Plan) bool { return rightVertices(p) && rightEdges(p) }

// copied is a plan alike that shares no memory with it.
func copied(p plan.Plan) plan.Plan {
	return plan.Plan{Vertices: slices.Clone(p.Vertices), Edges: slices.Clone(p.Edges)}
}

// alike tells whether two plans are.
func alike(p, q plan.Plan) bool {
	return slices.Equal(p.Vertices, q.Vertices) && slices.Equal(p.Edges, q.Edges)
}

// added is the plan with a vertex more.
func added(p plan.Plan, at api.Point) plan.Plan {
	q := copied(p)
	q.Vertices = append(q.Vertices, api.Vertex{Id: lastVertex(p) + 1, At: at})
	return q
}

// linked is the plan with an edge more.
func linked(p plan.Plan, a, b int) plan.Plan {
	q := copied(p)
	q.Edges = append(q.Edges, api.Edge{Id: lastEdge(p) + 1, A: a, B: b})
	return q
}

// split is the plan with an edge, which is there, parted by a vertex more.
func split(p plan.Plan, edge int, at api.Point) plan.Plan {
	q := added(p, at)
	middle := lastVertex(q)
	i := slices.IndexFunc(q.Edges, func(x api.Edge) bool { return x.Id == edge })
	end := q.Edges[i].B
	q.Edges[i].B = middle
	return linked(q, middle, end)
}

// dropped is the plan without a vertex.
func dropped(p plan.Plan, id int) plan.Plan {
	q := copied(p)
	q.Vertices = slices.DeleteFunc(q.Vertices, func(v api.Vertex) bool { return v.Id == id })
	return q
}

// cut is the plan without an edge.
func cut(p plan.Plan, id int) plan.Plan {
	q := copied(p)
	q.Edges = slices.DeleteFunc(q.Edges, func(x api.Edge) bool { return x.Id == id })
	return q
}

// lastVertex is the greatest number of a vertex: 0, if there is none.
func lastVertex(p plan.Plan) int {
	last := 0
	for _, v := range p.Vertices {
		last = max(last, v.Id)
	}
	return last
}

// lastEdge is the greatest number of an edge: 0, if there is none.
func lastEdge(p plan.Plan) int {
	last := 0
	for _, x := range p.Edges {
		last = max(last, x.Id)
	}
	return last
}

// hasVertex and hasEdge tell whether there is one of that number.
func hasVertex(p plan.Plan, id int) bool { _, ok := where(p, id); return ok }

func hasEdge(p plan.Plan, id int) bool {
	return slices.ContainsFunc(p.Edges, func(x api.Edge) bool { return x.Id == id })
}

// ends are the points between which an edge, which is there, goes.
func ends(p plan.Plan, id int) (api.Point, api.Point) {
	i := slices.IndexFunc(p.Edges, func(x api.Edge) bool { return x.Id == id })
	a, _ := where(p, p.Edges[i].A)
	b, _ := where(p, p.Edges[i].B)
	return a, b
}

// onEdge tells whether a point is on the inside of an edge.
func onEdge(p plan.Plan, at api.Point) bool {
	return slices.ContainsFunc(p.Edges, func(x api.Edge) bool {
		a, b := ends(p, x.Id)
		return inside(at, a, b)
	})
}

// What the chapter says of changes, of a plan that is right.

func canAdd(p plan.Plan, at api.Point) api.Errno {
	there := slices.ContainsFunc(p.Vertices, func(v api.Vertex) bool { return v.At == at })
	switch {
	case !inRange(at):
		return api.ErrRange
	case there:
		return api.ErrThere
	case onEdge(p, at):
		return api.ErrOn
	case len(p.Vertices) == 512:
		return api.ErrMany
	}
	return api.OK
}

func canLink(p plan.Plan, a, b int) api.Errno {
	if a == b {
		return api.ErrArg
	}
	from, hasA := where(p, a)
	to, hasB := where(p, b)
	if !hasA || !hasB {
		return api.ErrNone
	}
	there := slices.ContainsFunc(p.Edges, func(x api.Edge) bool { return x.A == a && x.B == b || x.A == b && x.B == a })
	over := slices.ContainsFunc(p.Vertices, func(v api.Vertex) bool { return inside(v.At, from, to) })
	crossed := slices.ContainsFunc(p.Edges, func(x api.Edge) bool {
		c, d := ends(p, x.Id)
		return common(from, to, c, d)
	})
	switch {
	case there:
		return api.ErrThere
	case over:
		return api.ErrOn
	case crossed:
		return api.ErrCross
	case len(p.Edges) == 1024:
		return api.ErrMany
	}
	return api.OK
}

func canSplit(p plan.Plan, edge int, at api.Point) api.Errno {
	if !hasEdge(p, edge) {
		return api.ErrNone
	}
	a, b := ends(p, edge)
	switch {
	case !inRange(at) || !inside(at, a, b):
		return api.ErrArg
	case len(p.Vertices) == 512 || len(p.Edges) == 1024:
		return api.ErrMany
	}
	return api.OK
}

func canDrop(p plan.Plan, id int) api.Errno {
	used := slices.ContainsFunc(p.Edges, func(x api.Edge) bool { return x.A == id || x.B == id })
	switch {
	case !hasVertex(p, id):
		return api.ErrNone
	case used:
		return api.ErrDegree
	}
	return api.OK
}

func canCut(p plan.Plan, id int) api.Errno {
	if !hasEdge(p, id) {
		return api.ErrNone
	}
	return api.OK
}
