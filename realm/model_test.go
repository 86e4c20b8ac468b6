package realm_test

import (
	"math/big"
	"slices"

	"croft/api"
	"croft/plan"
	"croft/realm"
)

const far = api.Max

func at(x, y int) api.Point { return api.Point{X: x, Y: y} }

func fore(edge int) api.Half { return api.Half{Edge: edge} }

func back(edge int) api.Half { return api.Half{Edge: edge, Back: true} }

// Here is told without the program which parts there are, of plans that are right:
// of layers 3, 5 and 17 nothing is called. Rings are layer 16's, as the chapter has
// them. In which part a point lies is told by what is right below it, not by how
// often a ray is crossed.

// turn is above 0, if c is on the left of who goes from a to b.
func turn(a, b, c api.Point) int { return (b.X-a.X)*(c.Y-a.Y) - (b.Y-a.Y)*(c.X-a.X) }

// ahead tells whether a stands ahead of b: by X, then by Y.
func ahead(a, b api.Point) bool { return a.X < b.X || a.X == b.X && a.Y < b.Y }

// inRange tells whether a point is.
func inRange(a api.Point) bool { return max(a.X, -a.X, a.Y, -a.Y) <= far && min(a.X, a.Y) >= -far }

// points are where the vertices are, by their numbers.
func points(p plan.Plan) map[int]api.Point {
	l := map[int]api.Point{}
	for _, v := range p.Vertices {
		l[v.Id] = v.At
	}
	return l
}

// way is from where to where a half goes.
type way struct{ from, to api.Point }

// touches tells whether a point in range is on a way, its ends too.
func (w way) touches(c api.Point) bool {
	return turn(w.from, w.to, c) == 0 &&
		min(w.from.X, w.to.X) <= c.X && c.X <= max(w.from.X, w.to.X) &&
		min(w.from.Y, w.to.Y) <= c.Y && c.Y <= max(w.from.Y, w.to.Y)
}

// waysOf are the ways of all halves.
func waysOf(p plan.Plan) map[api.Half]way {
	l, of := map[api.Half]way{}, points(p)
	for _, x := range p.Edges {
		l[fore(x.Id)], l[back(x.Id)] = way{of[x.A], of[x.B]}, way{of[x.B], of[x.A]}
	}
	return l
}

// has tells whether all halves of a list are there.
func has(ways map[api.Half]way, ring []api.Half) bool {
	return !slices.ContainsFunc(ring, func(h api.Half) bool { _, ok := ways[h]; return !ok })
}

// areaOf is the area of a list of halves, whatever list it is.
func areaOf(p plan.Plan, ring []api.Half) *big.Int {
	sum, ways := new(big.Int), waysOf(p)
	if !has(ways, ring) {
		return sum
	}
	for _, h := range ring {
		w := ways[h]
		for _, x := range [][2]int{{w.from.X, w.to.Y}, {-w.to.X, w.from.Y}} {
			sum.Add(sum, new(big.Int).Mul(big.NewInt(int64(x[0])), big.NewInt(int64(x[1]))))
		}
	}
	return sum
}

// isWithin tells whether a point is within a list of halves, whatever list it is.
func isWithin(p plan.Plan, ring []api.Half, c api.Point) bool {
	ways, n := waysOf(p), 0
	if !inRange(c) || !has(ways, ring) {
		return false
	}
	for _, h := range ring {
		w := ways[h]
		if w.touches(c) {
			return false
		}
		// A way up crosses the ray just if the point is on its left.
		if w.from.Y > w.to.Y {
			w.from, w.to = w.to, w.from
		}
		if w.to.Y > c.Y && w.from.Y <= c.Y && turn(w.from, w.to, c) > 0 {
			n++
		}
	}
	return n%2 == 1
}

// higher tells whether the way a runs above b right where a point c is, which both
// are below, both going to points that stand behind.
func higher(a, b way, c api.Point) bool {
	ax, ay, bx, by := a.to.X-a.from.X, a.to.Y-a.from.Y, b.to.X-b.from.X, b.to.Y-b.from.Y
	// How high a way is, times how far it goes to greater X; neither is upright.
	up := func(w way, x, y int) *big.Int {
		n := new(big.Int).Mul(big.NewInt(int64(c.X-w.from.X)), big.NewInt(int64(y)))
		return n.Add(n, new(big.Int).Mul(big.NewInt(int64(w.from.Y)), big.NewInt(int64(x))))
	}
	first := new(big.Int).Mul(up(a, ax, ay), big.NewInt(int64(bx)))
	second := new(big.Int).Mul(up(b, bx, by), big.NewInt(int64(ax)))
	if d := first.Cmp(second); d != 0 {
		return d > 0
	}
	// They begin at one point right below: a little to the right the steeper one
	// is above.
	return ay*bx > by*ax
}

// below is the half on whose left a point lies that no line touches but at its
// ends, which runs right below it; false, if there is none. All is told as if it
// were sheared a little, so that no line is upright, and none begins right below.
func below(ways map[api.Half]way, c api.Point) (api.Half, bool) {
	var best api.Half
	found := false
	for h, w := range ways {
		if ahead(w.from, c) && ahead(c, w.to) && turn(w.from, w.to, c) > 0 && (!found || higher(w, ways[best], c)) {
			best, found = h, true
		}
	}
	return best, found
}

// world is a right plan with its rings.
type world struct {
	p     plan.Plan
	ways  map[api.Half]way
	rings [][]api.Half
	of    map[api.Half]int // in which ring a half stands
	outer []int            // the place of the part around which a ring leads; 0 of an inner one
}

// worldOf is the world of a plan, whose rings are handed in.
func worldOf(p plan.Plan, rings [][]api.Half) *world {
	w := &world{p: p, ways: waysOf(p), rings: rings, of: map[api.Half]int{}}
	last := 0
	for i, ring := range rings {
		place := 0
		if leadsLeft(w.ways, ring) {
			last++
			place = last
		}
		w.outer = append(w.outer, place)
		for _, h := range ring {
			w.of[h] = i
		}
	}
	return w
}

// corner is where the least vertex of a ring is.
func corner(ways map[api.Half]way, ring []api.Half) api.Point {
	c := ways[ring[0]].from
	for _, h := range ring {
		if ahead(ways[h].from, c) {
			c = ways[h].from
		}
	}
	return c
}

// leadsLeft tells whether a ring leads around something to the left, by its least
// vertex: all ways from there go to one side. As often as the ring comes by, it
// has what lies from the way on which it leaves, to the left, up to the one on
// which it came: just if it leads to the right, or around nothing, that is once
// more than half of the way around.
func leadsLeft(ways map[api.Half]way, ring []api.Half) bool {
	c := corner(ways, ring)
	for i, h := range ring {
		came := ways[ring[(i+len(ring)-1)%len(ring)]].from
		if ways[h].from == c && turn(c, ways[h].to, came) <= 0 {
			return false
		}
	}
	return true
}

// part is the place of the part in which a point lies that no line touches, or a
// vertex without edges.
func (w *world) part(c api.Point) int {
	h, ok := below(w.ways, c)
	if !ok {
		return 0
	}
	return w.partOf(w.of[h])
}

// partOf is the place of the part around which, or in which, a ring leads. That of
// an inner ring is the same as of its least vertex, below which nothing runs of
// its own piece.
func (w *world) partOf(ring int) int {
	if w.outer[ring] > 0 {
		return w.outer[ring]
	}
	return w.part(corner(w.ways, w.rings[ring]))
}

// realms are all parts.
func (w *world) realms() []realm.Realm {
	l := make([]realm.Realm, 1)
	for i, ring := range w.rings {
		if w.outer[i] > 0 {
			l = append(l, realm.Realm{Outer: ring})
		}
	}
	for i, ring := range w.rings {
		if w.outer[i] == 0 {
			n := w.partOf(i)
			l[n].Inner = append(l[n].Inner, ring)
		}
	}
	for _, v := range w.p.Vertices {
		if !slices.ContainsFunc(w.p.Edges, func(x api.Edge) bool { return x.A == v.Id || x.B == v.Id }) {
			n := w.part(v.At)
			l[n].Alone = append(l[n].Alone, v.Id)
		}
	}
	return l
}

// find is where a point in range lies.
func (w *world) find(c api.Point) realm.Place {
	for _, v := range w.p.Vertices {
		if v.At == c {
			return realm.Place{Vertex: v.Id}
		}
	}
	for _, x := range w.p.Edges {
		if w.ways[fore(x.Id)].touches(c) {
			return realm.Place{Edge: x.Id}
		}
	}
	return realm.Place{Realm: w.part(c)}
}

// free tells whether the line between two points touches no edge.
func (w *world) free(c, d api.Point) bool {
	side := func(a, b, c api.Point) int { n := turn(a, b, c); return min(max(n, -1), 1) }
	for _, x := range w.ways {
		if x.touches(c) || x.touches(d) || (way{c, d}).touches(x.from) || (way{c, d}).touches(x.to) {
			return false
		}
		if side(c, d, x.from)*side(c, d, x.to) < 0 && side(x.from, x.to, c)*side(x.from, x.to, d) < 0 {
			return false
		}
	}
	return true
}

// alike tells whether two lists of parts are.
func alike(a, b []realm.Realm) bool {
	return slices.EqualFunc(a, b, func(r, s realm.Realm) bool {
		return slices.Equal(r.Outer, s.Outer) && slices.Equal(r.Alone, s.Alone) &&
			slices.EqualFunc(r.Inner, s.Inner, func(g, h []api.Half) bool { return slices.Equal(g, h) })
	})
}

// copied is a plan alike that shares no memory with it.
func copied(p plan.Plan) plan.Plan {
	return plan.Plan{Vertices: slices.Clone(p.Vertices), Edges: slices.Clone(p.Edges)}
}

// stirred are numbers that follow from a seed alone, with no pattern in them.
type stirred struct{ seed uint64 }

// below answers a number from 0 to n - 1.
func (s *stirred) below(n int) int {
	s.seed = s.seed*6364136223846793005 + 1442695040888963407
	return int(s.seed >> 33 % uint64(n))
}

// order answers the numbers from 0 to n - 1, stirred.
func (s *stirred) order(n int) []int {
	l := make([]int, n)
	for i := range l {
		j := s.below(i + 1)
		l[i] = l[j]
		l[j] = i
	}
	return l
}

// renumbered is the plan with its vertices and edges in another order, with other
// numbers, not all of which are given, and some edges the other way.
func renumbered(p plan.Plan, s *stirred) plan.Plan {
	var q plan.Plan
	id, ids := 0, map[int]int{}
	for _, i := range s.order(len(p.Vertices)) {
		id += 1 + s.below(3)
		ids[p.Vertices[i].Id] = id
		q.Vertices = append(q.Vertices, api.Vertex{Id: id, At: p.Vertices[i].At})
	}
	id = 0
	for _, i := range s.order(len(p.Edges)) {
		id += 1 + s.below(3)
		a, b := ids[p.Edges[i].A], ids[p.Edges[i].B]
		if s.below(2) == 0 {
			a, b = b, a
		}
		q.Edges = append(q.Edges, api.Edge{Id: id, A: a, B: b})
	}
	return q
}

// add draws a vertex, link an edge between two, round a ring through points, from
// one to the next; numbers are given from 1 on.
func add(p *plan.Plan, c api.Point) int {
	id := 1 + len(p.Vertices)
	p.Vertices = append(p.Vertices, api.Vertex{Id: id, At: c})
	return id
}

func link(p *plan.Plan, a, b int) {
	p.Edges = append(p.Edges, api.Edge{Id: 1 + len(p.Edges), A: a, B: b})
}

func round(p *plan.Plan, l ...api.Point) {
	first := 1 + len(p.Vertices)
	for i, c := range l {
		id := add(p, c)
		if i > 0 {
			link(p, id-1, id)
		}
	}
	link(p, len(p.Vertices), first)
}

// box draws a square.
func box(p *plan.Plan, low, high api.Point) {
	round(p, low, at(high.X, low.Y), high, at(low.X, high.Y))
}

// mapOf is a plan of vertices at these points, and edges between these, by the
// places of the points in their list, from 1 on.
func mapOf(points []api.Point, pairs ...[2]int) plan.Plan {
	var p plan.Plan
	for _, c := range points {
		add(&p, c)
	}
	for _, x := range pairs {
		link(&p, x[0], x[1])
	}
	return p
}

// grow calls do with all right plans that have, beside those of p, some of these
// edges more.
func grow(p plan.Plan, pairs [][2]int, do func(p plan.Plan)) {
	if len(pairs) == 0 {
		do(p)
		return
	}
	grow(p, pairs[1:], do)
	if x := pairs[0]; plan.CanLink(p, x[0], x[1]) == api.OK {
		q := copied(p)
		link(&q, x[0], x[1])
		grow(q, pairs[1:], do)
	}
}

// pairs are all pairs of the numbers from 1 to n.
func pairs(n int) [][2]int {
	var l [][2]int
	for a := 1; a <= n; a++ {
		for b := a + 1; b <= n; b++ {
			l = append(l, [2]int{a, b})
		}
	}
	return l
}

// someLinks draws edges, as many of those that are tried as may be.
func someLinks(p *plan.Plan, s *stirred, tries int) {
	n := len(p.Vertices)
	for range tries {
		if a, b := 1+s.below(n), 1+s.below(n); plan.CanLink(*p, a, b) == api.OK {
			link(p, a, b)
		}
	}
}

// mixed is a plan of up to 40 vertices and such edges as may be between them.
func mixed(s *stirred, side int) plan.Plan {
	var p plan.Plan
	for range 40 {
		if c := at((s.below(7)-3)*side, (s.below(7)-3)*side); plan.CanAdd(p, c) == api.OK {
			add(&p, c)
		}
	}
	someLinks(&p, s, s.below(150))
	return renumbered(p, s)
}

// islands is a plan of squares, triangles, edges and vertices beside and within
// one another, some of them linked.
func islands(s *stirred, side int) plan.Plan {
	var p plan.Plan
	for _, low := range []api.Point{at(-256*side, -256*side), at(0, -256*side), at(-256*side, 0), at(0, 0)} {
		fill(&p, s, low, 256*side, 3)
	}
	if len(p.Vertices) == 0 {
		return p
	}
	someLinks(&p, s, s.below(4)*s.below(20))
	return renumbered(p, s)
}

// fill draws something into the inside of a square, and into what it draws, as
// long as it is deep.
func fill(p *plan.Plan, s *stirred, low api.Point, side, deep int) {
	u := side / 8
	if u == 0 {
		return
	}
	in := func(x, y int) api.Point { return at(low.X+x*u, low.Y+y*u) }
	switch s.below(9) {
	case 0:
	case 1:
		add(p, in(2+s.below(5), 2+s.below(5)))
	case 2:
		link(p, add(p, in(1+s.below(3), 1+s.below(7))), add(p, in(4+s.below(4), 1+s.below(7))))
	case 3:
		round(p, in(1, 1+s.below(2)), in(7, 1+s.below(2)), in(3+s.below(3), 7))
		if deep > 0 {
			fill(p, s, in(3, 2), 2*u, deep-1)
		}
	case 4, 5, 6:
		if deep == 0 {
			return
		}
		for _, c := range []api.Point{low, in(4, 0), in(0, 4), in(4, 4)} {
			fill(p, s, c, 4*u, deep-1)
		}
	default:
		box(p, in(1, 1), in(7, 7))
		if corner := len(p.Vertices) - 3*s.below(2); s.below(2) == 0 {
			link(p, corner, add(p, in(2, 2+s.below(5)))) // from it to the inside
		}
		if deep > 0 {
			fill(p, s, in(3, 2), 4*u, deep-1)
		}
	}
}

// mesh is a right plan of so many columns and rows of vertices, each of which has
// edges up, to the right and, in every so many columns, across.
func mesh(columns, rows, every int) plan.Plan {
	var p plan.Plan
	for x := range columns {
		for y := range rows {
			id := add(&p, at(3*x, 3*y))
			if y > 0 {
				link(&p, id-1, id)
			}
			if x > 0 {
				link(&p, id, id-rows)
			}
			if x > 0 && y > 0 && x%every == 0 {
				link(&p, id-rows-1, id)
			}
		}
	}
	return p
}
