package realm

import (
	"croft/api"
	"croft/geom"
	"croft/plan"
	"croft/spin"
	"croft/wide"
)

// side is the line along which a half goes, from where it begins to where it
// leads.
type side struct{ from, to api.Vertex }

// ways answers the sides of all halves of a plan that is right. They are put
// together once, as layer 16 asks for each half anew whether the plan is right.
func ways(p plan.Plan) map[api.Half]side {
	vertices := map[int]api.Vertex{}
	for _, v := range p.Vertices {
		vertices[v.Id] = v
	}
	sides := map[api.Half]side{}
	for _, x := range p.Edges {
		h := api.Half{Edge: x.Id}
		a, b := vertices[x.A], vertices[x.B]
		sides[h] = side{a, b}
		sides[spin.Twin(h)] = side{b, a}
	}
	return sides
}

// along answers the sides of a list of halves; none, if one of them isn't there.
func along(ways map[api.Half]side, ring []api.Half) []side {
	var sides []side
	for _, h := range ring {
		s, ok := ways[h]
		if !ok {
			return nil
		}
		sides = append(sides, s)
	}
	return sides
}

// trace answers the sides of a list of halves; none, if one of them isn't there,
// or the plan isn't right.
func trace(p plan.Plan, ring []api.Half) []side {
	if !plan.Right(p) {
		return nil
	}
	return along(ways(p), ring)
}

// area is twice the area around which sides lead. What they lead along both ways
// comes with both signs, so it counts nothing.
func area(sides []side) wide.Int {
	var sum wide.Int
	for _, s := range sides {
		a, b := s.from.At, s.to.At
		more := int64(a.X)*int64(b.Y) - int64(b.X)*int64(a.Y)
		// Each is at most 2^57 without its sign, so more of them than there can
		// be items fit into a wide number.
		sum, _ = wide.Add(sum, wide.Of(more))
	}
	return sum
}

// least is the point where the least vertex of sides is.
func least(sides []side) api.Point {
	best := sides[0].from.At
	for _, s := range sides {
		if geom.Less(s.from.At, best) {
			best = s.from.At
		}
	}
	return best
}

// holds tells whether a point in range is on the inside of a side.
func (s side) holds(at api.Point) bool { return geom.On(at, s.from.At, s.to.At) }

// within tells whether a point in range is within sides, and on none of them.
func within(sides []side, at api.Point) bool {
	odd := false
	for _, s := range sides {
		if at == s.from.At || at == s.to.At || s.holds(at) {
			return false
		}
		if s.crosses(at) {
			odd = !odd
		}
	}
	return odd
}

// crosses tells whether a side has one end above a point's Y, the other one not,
// and meets the ray from there to greater X. So a ray through a vertex counts as
// one that runs a little above it, and meets none.
func (s side) crosses(at api.Point) bool {
	low, high := s.from.At, s.to.At
	if high.Y < low.Y {
		low, high = high, low
	}
	return low.Y <= at.Y && at.Y < high.Y && geom.Turn(low, high, at) > 0
}

// noPiece is the piece of what hangs together with no edge: vertices' numbers, by
// which pieces are told, are above it.
const noPiece = 0

// loop is a ring, with what is asked of it for each point anew.
type loop struct {
	ring  []api.Half
	sides []side
	area  wide.Int
	piece int
}

// land is what a right plan draws. Its rings stand in the order of layer 16.
type land struct {
	ways         map[api.Half]side
	outer, inner []loop
}

// survey answers what a plan draws; false, if it isn't right.
func survey(p plan.Plan) (*land, bool) {
	rings := spin.Rings(p)
	// What has rings is right. That is taken from them where there are any, as it
	// takes far longer to ask than all the rest.
	if len(rings) == 0 && !plan.Right(p) {
		return nil, false
	}
	l := &land{ways: ways(p)}
	piece := pieces(p)
	for _, ring := range rings {
		sides := along(l.ways, ring)
		o := loop{ring, sides, area(sides), piece[sides[0].from.Id]}
		if wide.Sign(o.area) > 0 {
			l.outer = append(l.outer, o)
		} else {
			l.inner = append(l.inner, o)
		}
	}
	return l, true
}

// pieces tells of each vertex with which others it hangs together: by the number
// of one vertex that is the same for all of them.
func pieces(p plan.Plan) map[int]int {
	joined := map[int][]int{}
	for _, x := range p.Edges {
		joined[x.A] = append(joined[x.A], x.B)
		joined[x.B] = append(joined[x.B], x.A)
	}
	piece := map[int]int{}
	var reach func(id, first int)
	reach = func(id, first int) {
		if _, met := piece[id]; met {
			return
		}
		piece[id] = first
		for _, to := range joined[id] {
			reach(to, first)
		}
	}
	for _, v := range p.Vertices {
		reach(v.Id, v.Id)
	}
	return piece
}

// part answers the place, among all parts, of the one in which a point of some
// piece lies: that of the least outer ring of another piece that it is within; the
// place 0 is that of the part without an end.
func (l *land) part(at api.Point, piece int) int {
	place := 0
	for i, o := range l.outer {
		if o.piece == piece || place > 0 && wide.Cmp(o.area, l.outer[place-1].area) >= 0 {
			continue
		}
		if within(o.sides, at) {
			place = 1 + i
		}
	}
	return place
}
