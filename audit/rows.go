package audit

import (
	"cmp"
	"slices"

	"croft/api"
	"croft/plan"
	"croft/realm"
)

// most is the greatest number that may be given.
const most = 1 << 40

// noFace is what a vertex that has edges names in a face's stead.
const noFace = -1

// open is the face of the part without an end.
const open = 0

func vertexId(v VertexRow) int { return v.Id }

func edgeId(x EdgeRow) int { return x.Id }

func faceId(f api.Face) int { return f.Id }

// stand is how a half stands: between which others, and at which face.
type stand struct {
	next, prev api.Half
	face       int
}

// layout is where all stands that rows tell beside a plan.
type layout struct {
	halves map[api.Half]stand
	alone  map[int]int // in which face vertices without edges lie, by their numbers
}

// lay answers how a plan's halves stand, and where its vertices alone lie, of the
// parts of the plane: each is the face that has its place for a number. The rings
// of these are all rings, so a half is followed by the one behind it in its ring.
func lay(parts []realm.Realm) layout {
	l := layout{map[api.Half]stand{}, map[int]int{}}
	for face, part := range parts {
		l.put(part.Outer, face)
		for _, ring := range part.Inner {
			l.put(ring, face)
		}
		for _, id := range part.Alone {
			l.alone[id] = face
		}
	}
	return l
}

// put puts in a ring of a face.
func (l layout) put(ring []api.Half, face int) {
	n := len(ring)
	for i, h := range ring {
		l.halves[h] = stand{ring[(i+1)%n], ring[(i+n-1)%n], face}
	}
}

// vertices answers the rows of a plan's vertices.
func (l layout) vertices(p plan.Plan) []VertexRow {
	var rows []VertexRow
	for _, v := range p.Vertices {
		row := VertexRow{Id: v.Id, At: v.At, Face: noFace}
		if face, ok := l.alone[v.Id]; ok {
			row.Face = face
		}
		rows = append(rows, row)
	}
	return rows
}

// edges answers the rows of a plan's edges.
func (l layout) edges(p plan.Plan) []EdgeRow {
	var rows []EdgeRow
	for _, x := range p.Edges {
		row := EdgeRow{Id: x.Id, A: x.A, B: x.B}
		for k, h := range [2]api.Half{{Edge: x.Id}, {Edge: x.Id, Back: true}} {
			s := l.halves[h]
			row.Next[k], row.Prev[k], row.Face[k] = s.next, s.prev, s.face
		}
		rows = append(rows, row)
	}
	return rows
}

// faces answers the rows of so many faces, numbered from 0 on, with attributes, 0
// behind these.
func faces(n int, attrs []int) []api.Face {
	rows := make([]api.Face, n)
	for id := range rows {
		rows[id].Id = id
		if id < len(attrs) {
			rows[id].Attr = attrs[id]
		}
	}
	return rows
}

// greatest answers the greatest number of rows by rising numbers; 0, if there are
// none.
func greatest[R any](rows []R, id func(R) int) int {
	if len(rows) == 0 {
		return 0
	}
	return id(rows[len(rows)-1])
}

// isAttr tells whether a number may be an attribute.
func isAttr(n int) bool { return 0 <= n && n <= api.MaxAttr }

// areFaces tells whether faces stand by rising numbers from 0 on, with attributes
// that may be.
func areFaces(l []api.Face) bool {
	for i, f := range l {
		if i > 0 && f.Id <= l[i-1].Id || !isAttr(f.Attr) {
			return false
		}
	}
	return len(l) > 0 && l[0].Id == open
}

// areLast tells whether the numbers given last may be so.
func areLast(t Table) bool {
	return isLast(t.LastVertex, t.Vertices, vertexId) &&
		isLast(t.LastEdge, t.Edges, edgeId) &&
		isLast(t.LastFace, t.Faces, faceId)
}

// isLast tells whether a number given last is below none of the rows that are
// there, nor beyond what may be given.
func isLast[R any](last int, rows []R, id func(R) int) bool {
	return last <= most && !slices.ContainsFunc(rows, func(r R) bool { return last < id(r) })
}

// called answers what was drawn of another table's plan, with what is free taken
// from that table: each face is called as it is where the table first names it, and
// has the attribute that the table gives to that number. The part without an end is
// called 0 ahead of all, whatever the table says.
func called(drawn, t Table) Table {
	names := map[int]int{noFace: noFace, open: open}
	name := func(face, as int) int {
		if _, met := names[face]; !met {
			names[face] = as
		}
		return names[face]
	}
	for i := range drawn.Vertices {
		row := &drawn.Vertices[i]
		row.Face = name(row.Face, t.Vertices[i].Face)
	}
	for i := range drawn.Edges {
		row := &drawn.Edges[i]
		for k, face := range row.Face {
			row.Face[k] = name(face, t.Edges[i].Face[k])
		}
	}
	drawn.Faces = renamed(drawn.Faces, names, t.Faces)
	drawn.LastVertex, drawn.LastEdge, drawn.LastFace = t.LastVertex, t.LastEdge, t.LastFace
	return drawn
}

// renamed answers the rows of faces by other names, by rising ones, with the
// attributes that faces of these names have.
func renamed(l []api.Face, names map[int]int, as []api.Face) []api.Face {
	attrs := map[int]int{}
	for _, f := range as {
		attrs[f.Id] = f.Attr
	}
	var out []api.Face
	for _, f := range l {
		id := names[f.Id]
		out = append(out, api.Face{Id: id, Attr: attrs[id]})
	}
	slices.SortFunc(out, func(a, b api.Face) int { return cmp.Compare(a.Id, b.Id) })
	return out
}
