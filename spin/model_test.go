package spin_test

import (
	"slices"

	"croft/api"
	"croft/plan"
)

const far = api.Max

func at(x, y int) api.Point { return api.Point{X: x, Y: y} }

func fore(edge int) api.Half { return api.Half{Edge: edge} }

func back(edge int) api.Half { return api.Half{Edge: edge, Back: true} }

// Here is told without the program how halves stand and follow, by the words of
// the chapter, of plans that are right: nothing of layers 5 and 16 is called, and
// what follows is told without the order in which halves leave a vertex.

// step is how far it is from one end of a half to the other.
type step struct{ x, y int }

// turn is above 0, if the second step is on the left of the first one, 0, if it
// is the same way or the opposite one.
func turn(a, b step) int { return a.x*b.y - a.y*b.x }

// quarter tells in which quarter of the way around to the left, from greater X
// on, a step is: each has its first direction, and not its last one.
func quarter(a step) int {
	switch {
	case a.x > 0 && a.y >= 0:
		return 0
	case a.y > 0:
		return 1
	case a.x < 0:
		return 2
	}
	return 3
}

// order holds two steps against each other, around to the left.
func order(a, b step) int {
	if d := quarter(a) - quarter(b); d != 0 {
		return d
	}
	return -turn(a, b)
}

// passed tells how late a step is met, going around to the right from another
// one: within half of the way around, just there, or behind it.
func passed(from, a step) int {
	switch t := turn(from, a); {
	case t < 0:
		return 0
	case t == 0:
		return 1
	}
	return 2
}

// sooner tells whether a is met ahead of b, going around to the right.
func sooner(from, a, b step) bool {
	if d := passed(from, a) - passed(from, b); d != 0 {
		return d < 0
	}
	return turn(b, a) > 0
}

// halves are all halves of a plan, in their order.
func halves(p plan.Plan) []api.Half {
	var out []api.Half
	for _, x := range p.Edges {
		out = append(out, fore(x.Id), back(x.Id))
	}
	return out
}

// ends are the vertices between which a half, which is there, goes.
func ends(p plan.Plan, h api.Half) (api.Vertex, api.Vertex) {
	x := p.Edges[slices.IndexFunc(p.Edges, func(x api.Edge) bool { return x.Id == h.Edge })]
	vertex := func(id int) api.Vertex {
		return p.Vertices[slices.IndexFunc(p.Vertices, func(v api.Vertex) bool { return v.Id == id })]
	}
	if h.Back {
		return vertex(x.B), vertex(x.A)
	}
	return vertex(x.A), vertex(x.B)
}

// stepOf is how far a half goes.
func stepOf(p plan.Plan, h api.Half) step {
	a, b := ends(p, h)
	return step{b.At.X - a.At.X, b.At.Y - a.At.Y}
}

// leaving are the halves that leave a vertex, in their order.
func leaving(p plan.Plan, id int) []api.Half {
	var out []api.Half
	for _, x := range p.Edges {
		if x.A == id {
			out = append(out, fore(x.Id))
		}
		if x.B == id {
			out = append(out, back(x.Id))
		}
	}
	return out
}

// out are the halves that leave a vertex, around to the left.
func out(p plan.Plan, id int) []api.Half {
	l := leaving(p, id)
	slices.SortFunc(l, func(g, h api.Half) int { return order(stepOf(p, g), stepOf(p, h)) })
	return l
}

// next is what follows a half: of all the others that leave the vertex to which
// it leads the one that is met first, going around to the right from the half
// back on.
func next(p plan.Plan, h api.Half) api.Half {
	home := api.Half{Edge: h.Edge, Back: !h.Back}
	from := stepOf(p, home)
	_, b := ends(p, h)
	best := home
	for _, g := range leaving(p, b.Id) {
		if g != home && (best == home || sooner(from, stepOf(p, g), stepOf(p, best))) {
			best = g
		}
	}
	return best
}

// place tells which half, in their order, one is.
func place(p plan.Plan, h api.Half) int { return slices.Index(halves(p), h) }

// rings are all rings: of each half the ring that it begins is gone along; the
// ones that begin with their least half are told.
func rings(p plan.Plan) [][]api.Half {
	all := halves(p)
	after := make([]int, len(all))
	for i, h := range all {
		after[i] = place(p, next(p, h))
	}
	var out [][]api.Half
	for first := range all {
		ring, least := []api.Half{all[first]}, first
		for i := after[first]; i != first; i = after[i] {
			ring = append(ring, all[i])
			least = min(least, i)
		}
		if least == first {
			out = append(out, ring)
		}
	}
	return out
}

// pieces tells of each vertex that has edges in which piece it is, by the number
// of one vertex of that piece.
func pieces(p plan.Plan) map[int]int {
	of := map[int]int{}
	for _, x := range p.Edges {
		of[x.A], of[x.B] = x.A, x.B
	}
	for range p.Vertices {
		for _, x := range p.Edges {
			least := min(of[x.A], of[x.B])
			of[x.A], of[x.B] = least, least
		}
	}
	return of
}

// area is twice the area around which a ring leads, above 0, if it leads around
// it to the left.
func area(p plan.Plan, ring []api.Half) int {
	sum := 0
	for _, h := range ring {
		a, b := ends(p, h)
		sum += a.At.X*b.At.Y - b.At.X*a.At.Y
	}
	return sum
}

// copied is a plan alike that shares no memory with it.
func copied(p plan.Plan) plan.Plan {
	return plan.Plan{Vertices: slices.Clone(p.Vertices), Edges: slices.Clone(p.Edges)}
}

// alike tells whether two lists of rings are.
func alike(a, b [][]api.Half) bool {
	return slices.EqualFunc(a, b, func(g, h []api.Half) bool { return slices.Equal(g, h) })
}

// stirred are numbers that follow from a seed alone, with no pattern in them.
type stirred struct{ seed uint64 }

// below answers a number from 0 to n - 1.
func (s *stirred) below(n int) int {
	s.seed = s.seed*6364136223846793005 + 1442695040888963407
	return int(s.seed >> 33 % uint64(n))
}

// order answers the numbers from 0 to n - 1, stirred.
func (s *stirred) order(n int) []int {
	l := make([]int, n)
	for i := range l {
		j := s.below(i + 1)
		l[i] = l[j]
		l[j] = i
	}
	return l
}

// renumbered is the plan with its vertices and edges in another order, with other
// numbers, not all of which are given, and some edges the other way.
func renumbered(p plan.Plan, s *stirred) plan.Plan {
	var q plan.Plan
	id, ids := 0, map[int]int{}
	for _, i := range s.order(len(p.Vertices)) {
		id += 1 + s.below(3)
		ids[p.Vertices[i].Id] = id
		q.Vertices = append(q.Vertices, api.Vertex{Id: id, At: p.Vertices[i].At})
	}
	id = 0
	for _, i := range s.order(len(p.Edges)) {
		id += 1 + s.below(3)
		a, b := ids[p.Edges[i].A], ids[p.Edges[i].B]
		if s.below(2) == 0 {
			a, b = b, a
		}
		q.Edges = append(q.Edges, api.Edge{Id: id, A: a, B: b})
	}
	return q
}

// mapOf is a plan of vertices at these points, and edges between these, by the
// places of the points in their list, from 1 on.
func mapOf(points []api.Point, pairs ...[2]int) plan.Plan {
	var p plan.Plan
	for i, at := range points {
		p.Vertices = append(p.Vertices, api.Vertex{Id: 1 + i, At: at})
	}
	for i, x := range pairs {
		p.Edges = append(p.Edges, api.Edge{Id: 1 + i, A: x[0], B: x[1]})
	}
	return p
}

// grow calls do with all right plans that have, beside those of p, some of these
// edges more.
func grow(p plan.Plan, pairs [][2]int, do func(p plan.Plan)) {
	if len(pairs) == 0 {
		do(p)
		return
	}
	grow(p, pairs[1:], do)
	if x := pairs[0]; plan.CanLink(p, x[0], x[1]) == api.OK {
		q := copied(p)
		q.Edges = append(q.Edges, api.Edge{Id: 1 + len(p.Edges), A: x[0], B: x[1]})
		grow(q, pairs[1:], do)
	}
}

// pairs are all pairs of the numbers from 1 to n.
func pairs(n int) [][2]int {
	var l [][2]int
	for a := 1; a <= n; a++ {
		for b := a + 1; b <= n; b++ {
			l = append(l, [2]int{a, b})
		}
	}
	return l
}

// mesh is a right plan of so many columns and rows of vertices, each of which has
// edges up, to the right and, in every so many columns, across.
func mesh(columns, rows, every int) plan.Plan {
	var p plan.Plan
	add := func(a, b int) { p.Edges = append(p.Edges, api.Edge{Id: 1 + len(p.Edges), A: a, B: b}) }
	for x := range columns {
		for y := range rows {
			id := 1 + x*rows + y
			p.Vertices = append(p.Vertices, api.Vertex{Id: id, At: at(3*x, 3*y)})
			if y > 0 {
				add(id-1, id)
			}
			if x > 0 {
				add(id, id-rows)
			}
			if x > 0 && y > 0 && x%every == 0 {
				add(id-rows-1, id)
			}
		}
	}
	return p
}

// star is a right plan of n edges, the first ones to the middle vertex 1, the
// others from it, in all directions: to the points whose X, or Y, or both are as
// far out as may be.
func star(n int) plan.Plan {
	p := plan.Plan{Vertices: []api.Vertex{{Id: 1, At: at(0, 0)}}}
	for i := range n {
		side := []api.Point{at(far, i-n/2), at(i-n/2, far), at(-far, i-n/2), at(i-n/2, -far)}[i%4]
		p.Vertices = append(p.Vertices, api.Vertex{Id: 2 + i, At: side})
		x := api.Edge{Id: 1 + i, A: 2 + i, B: 1}
		if i > n/2 {
			x.A, x.B = x.B, x.A
		}
		p.Edges = append(p.Edges, x)
	}
	return p
}
