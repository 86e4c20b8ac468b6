package audit_test

import (
	"math"
	"slices"

	"croft/api"
	"croft/audit"
	"croft/plan"
	"croft/realm"
	"croft/spin"
)

const far = api.Max

// most is the greatest number that may be given.
const most = 1 << 40

func at(x, y int) api.Point { return api.Point{X: x, Y: y} }

func fore(edge int) api.Half { return api.Half{Edge: edge} }

func back(edge int) api.Half { return api.Half{Edge: edge, Back: true} }

// both are the halves of an edge, in the order of its row.
func both(edge int) [2]api.Half { return [2]api.Half{fore(edge), back(edge)} }

// Here is told without the program, by the words of the chapter, clause by clause,
// which table is sound, and which one is drawn. What the chapter says by layers 15
// to 17 is asked of them: what follows a half by spin's Next, where a vertex lies
// alone by realm's Find, where a half by realm's Realms.

// world is what those layers tell of a plan.
type world struct {
	p     plan.Plan
	right bool
	next  map[api.Half]api.Half
	part  map[api.Half]int // in which part each half is
	alone map[int]int      // in which part each vertex without edges is
	parts int
}

// worldOf asks it.
func worldOf(p plan.Plan) *world {
	w := &world{p: p, right: plan.Right(p), next: map[api.Half]api.Half{}, part: map[api.Half]int{}, alone: map[int]int{}}
	if !w.right {
		return w
	}
	for _, x := range p.Edges {
		for _, h := range both(x.Id) {
			w.next[h], _ = spin.Next(p, h)
		}
	}
	l := realm.Realms(p)
	w.parts = len(l)
	for i, r := range l {
		for _, h := range slices.Concat(append(r.Inner, r.Outer)...) {
			w.part[h] = i
		}
	}
	// Vertices alone part nothing, so without them the parts are the same.
	bare := plan.Plan{Edges: p.Edges}
	for _, v := range p.Vertices {
		if plan.Degree(p, v.Id) > 0 {
			bare.Vertices = append(bare.Vertices, v)
		}
	}
	for _, v := range p.Vertices {
		if plan.Degree(p, v.Id) == 0 {
			place, _ := realm.Find(bare, v.At)
			w.alone[v.Id] = place.Realm
		}
	}
	return w
}

// planOf is the plan of a table.
func planOf(t audit.Table) plan.Plan {
	var p plan.Plan
	for _, r := range t.Vertices {
		p.Vertices = append(p.Vertices, api.Vertex{Id: r.Id, At: r.At})
	}
	for _, r := range t.Edges {
		p.Edges = append(p.Edges, api.Edge{Id: r.Id, A: r.A, B: r.B})
	}
	return p
}

// samePlan tells whether two plans are alike.
func samePlan(p, q plan.Plan) bool {
	return slices.Equal(p.Vertices, q.Vertices) && slices.Equal(p.Edges, q.Edges)
}

// sound tells whether a table is; the world is that of its plan, or of another one.
func (w *world) sound(t audit.Table) bool {
	if p := planOf(t); !samePlan(p, w.p) {
		w = worldOf(p)
	}
	return w.right && w.follow(t) && faced(t) && w.named(t) && lasts(t)
}

// follow tells whether each half is followed by its next one, and follows the one
// whose next one it is.
func (w *world) follow(t audit.Table) bool {
	for _, r := range t.Edges {
		for k, h := range both(r.Id) {
			if r.Next[k] != w.next[h] || w.next[r.Prev[k]] != h {
				return false
			}
		}
	}
	return true
}

// faced tells whether the faces rise from 0 on, and have attributes that may be.
func faced(t audit.Table) bool {
	last := -1
	for _, f := range t.Faces {
		if f.Id <= last || f.Attr < 0 || f.Attr > 1<<30 {
			return false
		}
		last = f.Id
	}
	return len(t.Faces) > 0 && t.Faces[0].Id == 0
}

// named tells whether each part is one face, which all that is in it names, and no
// other part, and whether vertices with edges name none.
func (w *world) named(t audit.Table) bool {
	names := make([]map[int]bool, w.parts)
	for i := range names {
		names[i] = map[int]bool{}
	}
	names[0][0] = true
	for _, r := range t.Edges {
		for k, h := range both(r.Id) {
			names[w.part[h]][r.Face[k]] = true
		}
	}
	for _, r := range t.Vertices {
		if part, alone := w.alone[r.Id]; alone {
			names[part][r.Face] = true
		} else if r.Face != -1 {
			return false
		}
	}
	count := map[int]int{}
	for _, l := range names {
		if len(l) != 1 {
			return false
		}
		for id := range l {
			count[id]++
		}
	}
	for _, f := range t.Faces {
		if count[f.Id] != 1 {
			return false
		}
	}
	return len(t.Faces) == w.parts
}

// lasts tells whether the numbers given last may be so.
func lasts(t audit.Table) bool {
	for _, r := range t.Vertices {
		if t.LastVertex < r.Id {
			return false
		}
	}
	for _, r := range t.Edges {
		if t.LastEdge < r.Id {
			return false
		}
	}
	for _, f := range t.Faces {
		if t.LastFace < f.Id {
			return false
		}
	}
	return max(t.LastVertex, t.LastEdge, t.LastFace) <= most
}

// drawn is the table of a right plan.
func (w *world) drawn(attrs []int) audit.Table {
	t := audit.Table{LastFace: w.parts - 1}
	for _, v := range w.p.Vertices {
		face, alone := w.alone[v.Id]
		if !alone {
			face = -1
		}
		t.Vertices = append(t.Vertices, audit.VertexRow{Id: v.Id, At: v.At, Face: face})
		t.LastVertex = v.Id
	}
	prev := map[api.Half]api.Half{}
	for h, next := range w.next {
		prev[next] = h
	}
	for _, x := range w.p.Edges {
		h, g := fore(x.Id), back(x.Id)
		t.Edges = append(t.Edges, audit.EdgeRow{
			Id: x.Id, A: x.A, B: x.B,
			Next: [2]api.Half{w.next[h], w.next[g]},
			Prev: [2]api.Half{prev[h], prev[g]},
			Face: [2]int{w.part[h], w.part[g]},
		})
		t.LastEdge = x.Id
	}
	for id := range w.parts {
		f := api.Face{Id: id}
		if id < len(attrs) {
			f.Attr = attrs[id]
		}
		t.Faces = append(t.Faces, f)
	}
	return t
}

// copied is a table alike that shares no memory with it.
func copied(t audit.Table) audit.Table {
	t.Vertices, t.Edges, t.Faces = slices.Clone(t.Vertices), slices.Clone(t.Edges), slices.Clone(t.Faces)
	return t
}

// alike tells whether two tables are.
func alike(a, b audit.Table) bool {
	return [3]int{a.LastVertex, a.LastEdge, a.LastFace} == [3]int{b.LastVertex, b.LastEdge, b.LastFace} &&
		slices.Equal(a.Vertices, b.Vertices) && slices.Equal(a.Edges, b.Edges) && slices.Equal(a.Faces, b.Faces)
}

// kind tells what a number of a table is.
type kind int

const (
	ofLast  kind = iota // given last
	ofId                // a row's
	ofPoint             // of a vertex's point
	ofFace              // a face that is named
	ofEnd               // an edge's
	ofHalf              // the edge of a half that is named
	ofAttr              // an attribute
)

// number is one that a table has.
type number struct {
	kind
	of *int
}

// numbers are all that a table has.
func numbers(t *audit.Table) []number {
	l := []number{{ofLast, &t.LastVertex}, {ofLast, &t.LastEdge}, {ofLast, &t.LastFace}}
	for i := range t.Vertices {
		r := &t.Vertices[i]
		l = append(l, number{ofId, &r.Id}, number{ofPoint, &r.At.X}, number{ofPoint, &r.At.Y}, number{ofFace, &r.Face})
	}
	for i := range t.Edges {
		r := &t.Edges[i]
		l = append(l, number{ofId, &r.Id}, number{ofEnd, &r.A}, number{ofEnd, &r.B})
		for k := range 2 {
			l = append(l, number{ofHalf, &r.Next[k].Edge}, number{ofHalf, &r.Prev[k].Edge}, number{ofFace, &r.Face[k]})
		}
	}
	for i := range t.Faces {
		l = append(l, number{ofId, &t.Faces[i].Id}, number{ofAttr, &t.Faces[i].Attr})
	}
	return l
}

// flags are all places of a table that tell whether a half is Back.
func flags(t *audit.Table) []*bool {
	var l []*bool
	for i := range t.Edges {
		for k := range 2 {
			l = append(l, &t.Edges[i].Next[k].Back, &t.Edges[i].Prev[k].Back)
		}
	}
	return l
}

// others are numbers that may be written in the stead of one: near to it, at the
// limits, or another one of the table.
func others(t audit.Table, n int, s *stirred) []int {
	all := numbers(&t)
	l := []int{n - 1, n + 1, -n, 2 * n, 0, 1, -1, most, most + 1, 1 << 30, 1<<30 + 1, math.MaxInt, math.MinInt}
	for range 4 {
		l = append(l, *all[s.below(len(all))].of)
	}
	return slices.DeleteFunc(l, func(other int) bool { return other == n })
}

// rename calls the faces of a table by other names, throughout: its rows of them
// stand by rising ones.
func rename(t *audit.Table, as func(id int) int) {
	for i := range t.Vertices {
		if r := &t.Vertices[i]; r.Face != -1 {
			r.Face = as(r.Face)
		}
	}
	for i := range t.Edges {
		for k, face := range t.Edges[i].Face {
			t.Edges[i].Face[k] = as(face)
		}
	}
	for i := range t.Faces {
		t.Faces[i].Id = as(t.Faces[i].Id)
		t.LastFace = max(t.LastFace, t.Faces[i].Id)
	}
	slices.SortFunc(t.Faces, func(f, g api.Face) int { return f.Id - g.Id })
}

// stirred are numbers that follow from a seed alone, with no pattern in them.
type stirred struct{ seed uint64 }

// below answers a number from 0 to n - 1.
func (s *stirred) below(n int) int {
	s.seed = s.seed*6364136223846793005 + 1442695040888963407
	return int(s.seed >> 33 % uint64(n))
}

// order answers the numbers from 0 to n - 1, stirred.
func (s *stirred) order(n int) []int {
	l := make([]int, n)
	for i := range l {
		j := s.below(i + 1)
		l[i] = l[j]
		l[j] = i
	}
	return l
}

// renumbered is the plan with its vertices and edges in another order, with other
// numbers, not all of which are given, and some edges the other way.
func renumbered(p plan.Plan, s *stirred) plan.Plan {
	var q plan.Plan
	id, ids := 0, map[int]int{}
	for _, i := range s.order(len(p.Vertices)) {
		id += 1 + s.below(3)
		ids[p.Vertices[i].Id] = id
		q.Vertices = append(q.Vertices, api.Vertex{Id: id, At: p.Vertices[i].At})
	}
	id = 0
	for _, i := range s.order(len(p.Edges)) {
		id += 1 + s.below(3)
		a, b := ids[p.Edges[i].A], ids[p.Edges[i].B]
		if s.below(2) == 0 {
			a, b = b, a
		}
		q.Edges = append(q.Edges, api.Edge{Id: id, A: a, B: b})
	}
	return q
}

// add draws a vertex, link an edge between two, round a ring through points, from
// one to the next; numbers are given from 1 on.
func add(p *plan.Plan, c api.Point) int {
	id := 1 + len(p.Vertices)
	p.Vertices = append(p.Vertices, api.Vertex{Id: id, At: c})
	return id
}

func link(p *plan.Plan, a, b int) {
	p.Edges = append(p.Edges, api.Edge{Id: 1 + len(p.Edges), A: a, B: b})
}

func round(p *plan.Plan, l ...api.Point) {
	first := 1 + len(p.Vertices)
	for i, c := range l {
		id := add(p, c)
		if i > 0 {
			link(p, id-1, id)
		}
	}
	link(p, len(p.Vertices), first)
}

// box draws a square.
func box(p *plan.Plan, low, high api.Point) {
	round(p, low, at(high.X, low.Y), high, at(low.X, high.Y))
}

// grow calls do with all right plans that have, beside those of p, some of these
// edges more.
func grow(p plan.Plan, pairs [][2]int, do func(p plan.Plan)) {
	if len(pairs) == 0 {
		do(p)
		return
	}
	grow(p, pairs[1:], do)
	if x := pairs[0]; plan.CanLink(p, x[0], x[1]) == api.OK {
		q := plan.Plan{Vertices: p.Vertices, Edges: slices.Clone(p.Edges)}
		link(&q, x[0], x[1])
		grow(q, pairs[1:], do)
	}
}

// pairs are all pairs of the numbers from 1 to n.
func pairs(n int) [][2]int {
	var l [][2]int
	for a := 1; a <= n; a++ {
		for b := a + 1; b <= n; b++ {
			l = append(l, [2]int{a, b})
		}
	}
	return l
}

// someLinks draws edges, as many of those that are tried as may be.
func someLinks(p *plan.Plan, s *stirred, tries int) {
	n := len(p.Vertices)
	for range tries {
		if a, b := 1+s.below(n), 1+s.below(n); plan.CanLink(*p, a, b) == api.OK {
			link(p, a, b)
		}
	}
}

// mixed is a plan of up to 20 vertices and such edges as may be between them, some
// of them around others.
func mixed(s *stirred, side int) plan.Plan {
	var p plan.Plan
	box(&p, at(-3*side, -3*side), at(3*side, 3*side))
	if s.below(2) == 0 {
		round(&p, at(-2*side, -2*side), at(2*side, -2*side), at(0, 2*side))
	}
	for range 16 {
		if c := at((s.below(9)-4)*side, (s.below(9)-4)*side); plan.CanAdd(p, c) == api.OK {
			add(&p, c)
		}
	}
	someLinks(&p, s, s.below(40))
	return renumbered(p, s)
}

// mesh is a right plan of so many columns and rows of vertices, each of which has
// edges up, to the right and, in every so many columns, across.
func mesh(columns, rows, every int) plan.Plan {
	var p plan.Plan
	for x := range columns {
		for y := range rows {
			id := add(&p, at(3*x, 3*y))
			if y > 0 {
				link(&p, id-1, id)
			}
			if x > 0 {
				link(&p, id, id-rows)
			}
			if x > 0 && y > 0 && x%every == 0 {
				link(&p, id-rows-1, id)
			}
		}
	}
	return p
}
