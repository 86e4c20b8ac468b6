package plan

import (
	"slices"

	"croft/api"
	"croft/geom"
)

// drawing is what stands of a plan, so far as it is drawn: that much is right.
type drawing struct {
	places map[int]api.Point // where the vertices are, by their numbers
	met    map[api.Point]int // which vertex is at a point
	joined map[[2]int]int    // which edge has two ends, the lesser number first
	points []api.Point       // of the vertices
	lines  []*line           // of the edges
}

// draw draws a plan; false, if it isn't right. It is right just if its numbers
// rise, and each vertex may be added to those ahead of it, and then each edge to
// all vertices and the edges ahead of it: so what may be is told in one place, of
// a plan that is there as of one that is to be changed.
func draw(p Plan) (*drawing, bool) {
	d := &drawing{places: map[int]api.Point{}, met: map[api.Point]int{}, joined: map[[2]int]int{}}
	last := 0
	for _, v := range p.Vertices {
		if v.Id <= last || d.canAdd(v.At) != api.OK {
			return nil, false
		}
		d.add(v)
		last = v.Id
	}
	last = 0
	for _, x := range p.Edges {
		if x.Id <= last || d.canLink(x.A, x.B) != api.OK {
			return nil, false
		}
		d.link(x)
		last = x.Id
	}
	return d, true
}

// canAdd tells whether a vertex may be added.
func (d *drawing) canAdd(at api.Point) api.Errno {
	_, there := d.met[at]
	switch {
	case !geom.In(at):
		return api.ErrRange
	case there:
		return api.ErrThere
	case slices.ContainsFunc(d.lines, func(l *line) bool { return l.holds(at) }):
		return api.ErrOn
	case d.hasAllVertices():
		return api.ErrMany
	}
	return api.OK
}

// canLink tells whether an edge may be added.
func (d *drawing) canLink(a, b int) api.Errno {
	_, hasA := d.places[a]
	_, hasB := d.places[b]
	_, there := d.joined[pair(a, b)]
	way := d.line(a, b)
	switch {
	case a == b:
		return api.ErrArg
	case !hasA, !hasB:
		return api.ErrNone
	case there:
		return api.ErrThere
	case slices.ContainsFunc(d.points, way.holds):
		return api.ErrOn
	case slices.ContainsFunc(d.lines, way.meets):
		return api.ErrCross
	case d.hasAllEdges():
		return api.ErrMany
	}
	return api.OK
}

// hasAllVertices tells whether there are as many vertices as may be.
func (d *drawing) hasAllVertices() bool { return len(d.points) >= api.MaxNodes }

// hasAllEdges tells whether there are as many edges as may be.
func (d *drawing) hasAllEdges() bool { return len(d.lines) >= api.MaxEdges }

// add draws a vertex that may be added.
func (d *drawing) add(v api.Vertex) {
	d.places[v.Id] = v.At
	d.met[v.At] = v.Id
	d.points = append(d.points, v.At)
}

// link draws an edge that may be added.
func (d *drawing) link(x api.Edge) {
	d.joined[pair(x.A, x.B)] = x.Id
	d.lines = append(d.lines, d.line(x.A, x.B))
}

// pair is two ends, whichever way an edge goes between them.
func pair(a, b int) [2]int { return [2]int{min(a, b), max(a, b)} }

// line is a straight line between two points, and the least box around it. What
// is not in the box isn't on the line: that is asked first, as it is by far the
// cheaper question, and tells of most lines that they are nowhere near.
type line struct {
	a, b api.Point
	box  api.Box
}

// line answers the line between two vertices.
func (d *drawing) line(a, b int) *line {
	p, q := d.places[a], d.places[b]
	low := api.Point{X: min(p.X, q.X), Y: min(p.Y, q.Y)}
	high := api.Point{X: max(p.X, q.X), Y: max(p.Y, q.Y)}
	return &line{p, q, api.Box{Low: low, High: high}}
}

// holds tells whether a point is on a line's inside.
func (l *line) holds(p api.Point) bool {
	return touch(l.box, api.Box{Low: p, High: p}) && geom.On(p, l.a, l.b)
}

// meets tells whether two lines meet.
func (l *line) meets(m *line) bool {
	return touch(l.box, m.box) && geom.Meet(l.a, l.b, m.a, m.b)
}

// touch tells whether two boxes have a point in common.
func touch(a, b api.Box) bool {
	return a.Low.X <= b.High.X && b.Low.X <= a.High.X && a.Low.Y <= b.High.Y && b.Low.Y <= a.High.Y
}
