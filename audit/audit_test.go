package audit_test

import (
	"math"
	"slices"
	"testing"

	"croft/api"
	"croft/audit"
	"croft/plan"
)

// town is a square with a lesser one in it, which has a triangle in it, and beside
// it an edge; vertices alone in all of these, and outside; another triangle that
// touches the square from without in a corner; an edge into the square that ends
// there. Numbers are left out, and the inner ones are the lesser ones.
func town() plan.Plan {
	return plan.Plan{
		Vertices: []api.Vertex{
			{Id: 2, At: at(4, 4)}, {Id: 3, At: at(12, 4)}, {Id: 4, At: at(12, 12)}, {Id: 5, At: at(4, 12)},
			{Id: 7, At: at(6, 6)}, {Id: 8, At: at(10, 6)}, {Id: 9, At: at(8, 10)},
			{Id: 11, At: at(0, 0)}, {Id: 12, At: at(20, 0)}, {Id: 13, At: at(20, 20)}, {Id: 14, At: at(0, 20)},
			{Id: 15, At: at(14, 14)}, {Id: 16, At: at(16, 6)}, {Id: 17, At: at(14, 18)},
			{Id: 20, At: at(22, 24)}, {Id: 21, At: at(24, 22)},
			{Id: 30, At: at(8, 7)}, {Id: 31, At: at(5, 11)}, {Id: 32, At: at(2, 4)}, {Id: 33, At: at(24, 24)}, {Id: 34, At: at(-1, 20)}, {Id: 35, At: at(18, 14)}, {Id: 36, At: at(22, 22)},
		},
		Edges: []api.Edge{
			{Id: 1, A: 7, B: 8}, {Id: 2, A: 9, B: 8}, {Id: 3, A: 9, B: 7},
			{Id: 5, A: 2, B: 3}, {Id: 6, A: 4, B: 3}, {Id: 7, A: 4, B: 5}, {Id: 8, A: 5, B: 2},
			{Id: 9, A: 15, B: 16},
			{Id: 10, A: 11, B: 12}, {Id: 11, A: 12, B: 13}, {Id: 12, A: 14, B: 13}, {Id: 13, A: 14, B: 11},
			{Id: 14, A: 13, B: 17},
			{Id: 20, A: 20, B: 13}, {Id: 21, A: 13, B: 21}, {Id: 22, A: 20, B: 21},
		},
	}
}

// townRows is the table of the town, whose faces are 0 outside, 1 the inner
// triangle, 2 the lesser square, 3 the greater one, 4 the outer triangle.
func townRows() audit.Table {
	t := audit.Table{LastVertex: 36, LastEdge: 22, LastFace: 4}
	alone := map[int]int{30: 1, 31: 2, 32: 3, 33: 0, 34: 0, 35: 3, 36: 4}
	for _, v := range town().Vertices {
		face, ok := alone[v.Id]
		if !ok {
			face = -1
		}
		t.Vertices = append(t.Vertices, audit.VertexRow{Id: v.Id, At: v.At, Face: face})
	}
	row := func(id, a, b int, next, prev [2]api.Half, face [2]int) {
		t.Edges = append(t.Edges, audit.EdgeRow{Id: id, A: a, B: b, Next: next, Prev: prev, Face: face})
	}
	row(1, 7, 8, [2]api.Half{back(2), back(3)}, [2]api.Half{fore(3), fore(2)}, [2]int{1, 2})
	row(2, 9, 8, [2]api.Half{back(1), fore(3)}, [2]api.Half{back(3), fore(1)}, [2]int{2, 1})
	row(3, 9, 7, [2]api.Half{fore(1), fore(2)}, [2]api.Half{back(2), back(1)}, [2]int{1, 2})
	row(5, 2, 3, [2]api.Half{back(6), back(8)}, [2]api.Half{fore(8), fore(6)}, [2]int{2, 3})
	row(6, 4, 3, [2]api.Half{back(5), fore(7)}, [2]api.Half{back(7), fore(5)}, [2]int{3, 2})
	row(7, 4, 5, [2]api.Half{fore(8), fore(6)}, [2]api.Half{back(6), back(8)}, [2]int{2, 3})
	row(8, 5, 2, [2]api.Half{fore(5), back(7)}, [2]api.Half{fore(7), back(5)}, [2]int{2, 3})
	row(9, 15, 16, [2]api.Half{back(9), fore(9)}, [2]api.Half{back(9), fore(9)}, [2]int{3, 3})
	row(10, 11, 12, [2]api.Half{fore(11), back(13)}, [2]api.Half{fore(13), back(11)}, [2]int{3, 0})
	row(11, 12, 13, [2]api.Half{fore(14), back(10)}, [2]api.Half{fore(10), back(21)}, [2]int{3, 0})
	row(12, 14, 13, [2]api.Half{back(20), fore(13)}, [2]api.Half{back(13), back(14)}, [2]int{0, 3})
	row(13, 14, 11, [2]api.Half{fore(10), fore(12)}, [2]api.Half{back(12), back(10)}, [2]int{3, 0})
	row(14, 13, 17, [2]api.Half{back(14), back(12)}, [2]api.Half{fore(11), fore(14)}, [2]int{3, 3})
	row(20, 20, 13, [2]api.Half{fore(21), fore(22)}, [2]api.Half{back(22), fore(12)}, [2]int{4, 0})
	row(21, 13, 21, [2]api.Half{back(22), back(11)}, [2]api.Half{fore(20), fore(22)}, [2]int{4, 0})
	row(22, 20, 21, [2]api.Half{back(21), fore(20)}, [2]api.Half{back(20), fore(21)}, [2]int{0, 4})
	for id, attr := range []int{7, 0, api.MaxAttr, 1, 7} {
		t.Faces = append(t.Faces, api.Face{Id: id, Attr: attr})
	}
	return t
}

// townAttrs are the attributes of its faces.
func townAttrs() []int { return []int{7, 0, api.MaxAttr, 1, 7} }

// checks fails the test unless it is told of a table what is wanted; what is told
// may not change it.
func checks(t *testing.T, what string, x audit.Table, want api.Errno) {
	t.Helper()
	before := copied(x)
	if got := audit.Check(x); got != want {
		t.Errorf("Check of %s = %d, not %d", what, got, want)
	}
	if !alike(x, before) {
		t.Fatalf("Check of %s changed it", what)
	}
}

// Promise 18.1: Plan, Check, Same.

func TestPlan(t *testing.T) {
	if p := audit.Plan(townRows()); !samePlan(p, town()) {
		t.Errorf("Plan of the town = %v", p)
	}
	if p := audit.Plan(audit.Table{LastVertex: 3, LastEdge: 4, LastFace: 5, Faces: []api.Face{{Id: 0}}}); !samePlan(p, plan.Plan{}) {
		t.Errorf("Plan of nothing = %v", p)
	}
	// Whatever the rows are.
	x := audit.Table{
		Vertices: []audit.VertexRow{{Id: 5, At: at(1, 2), Face: 7}, {Id: -5, At: at(math.MinInt, math.MaxInt)}, {Id: 5}, {}},
		Edges:    []audit.EdgeRow{{Id: 9, A: 1, B: 2, Face: [2]int{3, 4}}, {Id: 9, A: 8}, {Id: math.MinInt, B: math.MaxInt, Next: both(1), Prev: both(2)}},
	}
	want := plan.Plan{
		Vertices: []api.Vertex{{Id: 5, At: at(1, 2)}, {Id: -5, At: at(math.MinInt, math.MaxInt)}, {Id: 5}, {}},
		Edges:    []api.Edge{{Id: 9, A: 1, B: 2}, {Id: 9, A: 8}, {Id: math.MinInt, B: math.MaxInt}},
	}
	if p := audit.Plan(x); !samePlan(p, want) {
		t.Errorf("Plan of wrong rows = %v", p)
	}
}

// as answers names of faces: of some of them others, of all others their own.
func as(names map[int]int) func(id int) int {
	return func(id int) int {
		if name, ok := names[id]; ok {
			return name
		}
		return id
	}
}

func TestCheck(t *testing.T) {
	for what, change := range map[string]func(x *audit.Table){
		"the town":             func(x *audit.Table) {},
		"other attributes":     func(x *audit.Table) { x.Faces[0].Attr, x.Faces[2].Attr, x.Faces[4].Attr = api.MaxAttr, 0, 1 },
		"numbers given beyond": func(x *audit.Table) { x.LastVertex, x.LastEdge, x.LastFace = 37, 1000, 5 },
		"all numbers given":    func(x *audit.Table) { x.LastVertex, x.LastEdge, x.LastFace = most, most, most },
		"other names of faces": func(x *audit.Table) { rename(x, as(map[int]int{1: 5, 3: 17, 4: 6})) },
		"the greatest name":    func(x *audit.Table) { rename(x, as(map[int]int{1: most})) },
		"names the other way":  func(x *audit.Table) { rename(x, as(map[int]int{1: 4, 2: 3, 3: 2, 4: 1})) },
		"no rows":              func(x *audit.Table) { *x = audit.Table{Faces: []api.Face{{Attr: 3}}} },
		"no rows any more":     func(x *audit.Table) { *x = audit.Table{LastVertex: 3, LastEdge: 2, LastFace: 1, Faces: []api.Face{{}}} },
		"a vertex elsewhere":   func(x *audit.Table) { x.Vertices[18].At = at(2, 5) },
		"a corner elsewhere":   func(x *audit.Table) { x.Vertices[15].At = at(25, 21) },
		"another vertex alone": func(x *audit.Table) { x.Vertices[16].Id = 22 },
		"a vertex less":        func(x *audit.Table) { x.Vertices = slices.Delete(x.Vertices, 18, 19) },
		"an edge less": func(x *audit.Table) {
			x.Edges = slices.Delete(x.Edges, 7, 8)
			x.Vertices[11].Face, x.Vertices[12].Face = 3, 3
		},
		"no edges": func(x *audit.Table) {
			x.Vertices, x.Edges, x.Faces = x.Vertices[19:21], nil, x.Faces[:1]
		},
	} {
		x := townRows()
		change(&x)
		checks(t, what, x, api.OK)
		if w := worldOf(planOf(x)); !w.sound(x) {
			t.Errorf("the model says that %s isn't sound", what)
		}
	}
}

// TestCheckOfWrongTables breaks each clause alone.
func TestCheckOfWrongTables(t *testing.T) {
	for what, change := range map[string]func(x *audit.Table){
		// No right plan.
		"a vertex 0":                  func(x *audit.Table) { x.Vertices[0].Id = 0 },
		"vertices out of order":       func(x *audit.Table) { x.Vertices[16], x.Vertices[17] = x.Vertices[17], x.Vertices[16] },
		"a vertex twice":              func(x *audit.Table) { x.Vertices = slices.Insert(x.Vertices, 16, x.Vertices[16]) },
		"a point too far out":         func(x *audit.Table) { x.Vertices[19].At.X = far + 1 },
		"a point twice":               func(x *audit.Table) { x.Vertices[16].At = at(4, 4) },
		"a vertex on an edge":         func(x *audit.Table) { x.Vertices[18].At = at(0, 1) },
		"an edge to no vertex":        func(x *audit.Table) { x.Edges[7].B = 18 },
		"an edge from a vertex to it": func(x *audit.Table) { x.Edges[7].B = 15 },
		"edges that cross":            func(x *audit.Table) { x.Vertices[13].At = at(16, 0) },
		"edges out of order":          func(x *audit.Table) { x.Edges[0], x.Edges[1] = x.Edges[1], x.Edges[0] },
		"an edge twice":               func(x *audit.Table) { x.Edges = slices.Insert(x.Edges, 7, x.Edges[7]) },
		"no vertices":                 func(x *audit.Table) { x.Vertices = nil },
		// What follows what.
		"another next one":                func(x *audit.Table) { x.Edges[0].Next[0] = fore(5) },
		"another previous one":            func(x *audit.Table) { x.Edges[0].Prev[0] = fore(5) },
		"a next one the other way":        func(x *audit.Table) { x.Edges[7].Next[1] = back(9) },
		"a previous one the other way":    func(x *audit.Table) { x.Edges[7].Prev[0] = fore(9) },
		"a next one that isn't there":     func(x *audit.Table) { x.Edges[5].Next[1] = back(4) },
		"a previous one that isn't there": func(x *audit.Table) { x.Edges[5].Prev[1] = fore(4) },
		"halves changed":                  func(x *audit.Table) { r := &x.Edges[0]; r.Next[0], r.Next[1] = r.Next[1], r.Next[0] },
		"next and previous ones changed":  func(x *audit.Table) { r := &x.Edges[12]; r.Next, r.Prev = r.Prev, r.Next },
		"an edge passed by": func(x *audit.Table) { // the one that ends in the square: it is a ring of its own
			x.Edges[9].Next[0], x.Edges[10].Prev[1] = back(12), fore(11)
			x.Edges[12].Next[1], x.Edges[12].Prev[0] = fore(14), back(14)
		},
		"an edge turned": func(x *audit.Table) { r := &x.Edges[4]; r.A, r.B = r.B, r.A },
		// Faces.
		"no faces":                  func(x *audit.Table) { x.Faces = nil },
		"a face less":               func(x *audit.Table) { x.Faces = x.Faces[:4] },
		"the first face less":       func(x *audit.Table) { x.Faces = x.Faces[1:] },
		"a face more":               func(x *audit.Table) { x.Faces = append(x.Faces, api.Face{Id: 5}); x.LastFace = 5 },
		"a face below 0":            func(x *audit.Table) { x.Faces = slices.Insert(x.Faces, 0, api.Face{Id: -1}) },
		"a face twice":              func(x *audit.Table) { x.Faces = slices.Insert(x.Faces, 3, x.Faces[3]) },
		"a face twice, another not": func(x *audit.Table) { x.Faces[3] = x.Faces[4] },
		"faces out of order":        func(x *audit.Table) { x.Faces[3], x.Faces[4] = x.Faces[4], x.Faces[3] },
		"a face of another number":  func(x *audit.Table) { x.Faces[4].Id, x.LastFace = 5, 5 },
		"an attribute below 0":      func(x *audit.Table) { x.Faces[1].Attr = -1 },
		"an attribute too great":    func(x *audit.Table) { x.Faces[4].Attr = api.MaxAttr + 1 },
		// What names them.
		"one outside that isn't 0":   func(x *audit.Table) { rename(x, as(map[int]int{0: 9})) },
		"0 and another face changed": func(x *audit.Table) { rename(x, as(map[int]int{0: 3, 3: 0})) },
		"a face of a number below 0": func(x *audit.Table) { rename(x, as(map[int]int{4: -2})) },
		"a face of the number -1":    func(x *audit.Table) { rename(x, as(map[int]int{4: -1})) },
		"two parts, one name":        func(x *audit.Table) { rename(x, as(map[int]int{4: 1})); x.Faces = slices.Delete(x.Faces, 1, 2) },
		"two parts, one name, one free": func(x *audit.Table) {
			rename(x, as(map[int]int{4: 1}))
			x.Faces[1].Id, x.Faces[2].Id = 1, 2
			x.Faces[4].Id = 4
		},
		"two parts, the name 0":  func(x *audit.Table) { rename(x, as(map[int]int{4: 0})); x.Faces = slices.Delete(x.Faces, 0, 1) },
		"a half at another face": func(x *audit.Table) { x.Edges[4].Face[1] = 3 },
		"a half at no face":      func(x *audit.Table) { x.Edges[4].Face[1] = -1 },
		"a half at a face of its own": func(x *audit.Table) {
			x.Edges[4].Face[1] = 5
			x.Faces = append(x.Faces, api.Face{Id: 5})
			x.LastFace = 5
		},
		"an edge's faces changed": func(x *audit.Table) { x.Edges[4].Face = [2]int{2, 3} },
		"a ring within at another face": func(x *audit.Table) {
			x.Edges[0].Face[1], x.Edges[1].Face[0], x.Edges[2].Face[1] = 3, 3, 3
		},
		"a ring within at a face of its own": func(x *audit.Table) {
			x.Edges[7].Face = [2]int{5, 5}
			x.Faces = append(x.Faces, api.Face{Id: 5})
			x.LastFace = 5
		},
		"a ring outside at a face of its own": func(x *audit.Table) { // so that no half names 0
			for i, r := range x.Edges {
				for k, face := range r.Face {
					if face == 0 {
						x.Edges[i].Face[k] = 5
					}
				}
			}
			x.Faces = append(x.Faces, api.Face{Id: 5})
			x.LastFace = 5
		},
		"a vertex alone at another face":            func(x *audit.Table) { x.Vertices[16].Face = 2 },
		"a vertex alone at no face":                 func(x *audit.Table) { x.Vertices[19].Face = -1 },
		"a vertex alone at a face that isn't there": func(x *audit.Table) { x.Vertices[22].Face = 5 },
		"a vertex with edges at a face":             func(x *audit.Table) { x.Vertices[7].Face = 0 },
		"a vertex in the midst at a face":           func(x *audit.Table) { x.Vertices[13].Face = 3 },
		"a vertex with edges that names -2":         func(x *audit.Table) { x.Vertices[7].Face = -2 },
		"all vertices with edges name -2": func(x *audit.Table) {
			for i := range 16 {
				x.Vertices[i].Face = -2
			}
		},
		"a vertex carried into another part": func(x *audit.Table) { x.Vertices[18].At = at(5, 5) },
		// The numbers given last.
		"a vertex beyond the last":  func(x *audit.Table) { x.LastVertex = 35 },
		"an edge beyond the last":   func(x *audit.Table) { x.LastEdge = 21 },
		"a face beyond the last":    func(x *audit.Table) { x.LastFace = 3 },
		"a last vertex too great":   func(x *audit.Table) { x.LastVertex = most + 1 },
		"a last edge too great":     func(x *audit.Table) { x.LastEdge = most + 1 },
		"a last face too great":     func(x *audit.Table) { x.LastFace = most + 1 },
		"a vertex too great":        func(x *audit.Table) { x.Vertices[22].Id, x.LastVertex = most+1, most+1 },
		"a vertex beyond the most":  func(x *audit.Table) { x.Vertices[22].Id, x.LastVertex = most+1, most },
		"a face too great":          func(x *audit.Table) { rename(x, as(map[int]int{1: most + 1})) },
		"no rows, the last face -1": func(x *audit.Table) { *x = audit.Table{LastFace: -1, Faces: []api.Face{{}}} },
		"no rows and no faces":      func(x *audit.Table) { *x = audit.Table{} },
		"no rows and two faces":     func(x *audit.Table) { *x = audit.Table{LastFace: 1, Faces: []api.Face{{}, {Id: 1}}} },
		"no rows but the face 1":    func(x *audit.Table) { *x = audit.Table{LastFace: 1, Faces: []api.Face{{Id: 1}}} },
		"no rows, a last one too great": func(x *audit.Table) {
			*x = audit.Table{LastVertex: most + 1, Faces: []api.Face{{}}}
		},
	} {
		x := townRows()
		change(&x)
		checks(t, what, x, api.ErrBad)
		if w := worldOf(planOf(x)); w.sound(x) {
			t.Errorf("the model says that %s is sound", what)
		}
	}
}

// TestNothingBelowWhichANumberIs has no vertices, or no edges: then the number given
// last is below none that is there.
func TestNothingBelowWhichANumberIs(t *testing.T) {
	for _, last := range []int{-1, math.MinInt, 0, most} {
		checks(t, "nothing", audit.Table{LastVertex: last, LastEdge: last, Faces: []api.Face{{}}}, api.OK)
		x := audit.Table{LastVertex: 2, LastEdge: last, Vertices: []audit.VertexRow{{Id: 2}}, Faces: []api.Face{{}}}
		checks(t, "a vertex", x, api.OK)
		x.LastVertex = min(last, 1)
		checks(t, "a vertex beyond the last", x, api.ErrBad)
	}
}

// isSame fails the test unless two tables are alike, or aren't, whichever is first.
func isSame(t *testing.T, a, b audit.Table, want bool) {
	t.Helper()
	if audit.Same(a, b) != want || audit.Same(b, a) != want {
		t.Errorf("Same(%v, %v) = %t", a, b, !want)
	}
}

func TestSame(t *testing.T) {
	x := townRows()
	isSame(t, x, x, true)
	isSame(t, x, townRows(), true)
	isSame(t, audit.Table{}, audit.Table{}, true)
	isSame(t, audit.Table{}, audit.Table{Vertices: []audit.VertexRow{}, Edges: []audit.EdgeRow{}, Faces: []api.Face{}}, true)
	isSame(t, x, audit.Table{}, false)
	for i := range numbers(&x) {
		y := townRows()
		n := numbers(&y)[i]
		for _, other := range []int{*n.of + 1, *n.of - 1, math.MaxInt} {
			*n.of = other
			isSame(t, x, y, false)
		}
		isSame(t, y, copied(y), true)
	}
	for i := range flags(&x) {
		y := townRows()
		f := flags(&y)[i]
		*f = !*f
		isSame(t, x, y, false)
	}
	for what, change := range map[string]func(x *audit.Table){
		"a vertex less":    func(x *audit.Table) { x.Vertices = x.Vertices[:22] },
		"an edge less":     func(x *audit.Table) { x.Edges = x.Edges[:15] },
		"a face less":      func(x *audit.Table) { x.Faces = x.Faces[:4] },
		"no vertices":      func(x *audit.Table) { x.Vertices = nil },
		"no edges":         func(x *audit.Table) { x.Edges = nil },
		"no faces":         func(x *audit.Table) { x.Faces = nil },
		"vertices changed": func(x *audit.Table) { x.Vertices[3], x.Vertices[4] = x.Vertices[4], x.Vertices[3] },
		"edges changed":    func(x *audit.Table) { x.Edges[3], x.Edges[4] = x.Edges[4], x.Edges[3] },
		"faces changed":    func(x *audit.Table) { x.Faces[3], x.Faces[4] = x.Faces[4], x.Faces[3] },
		"an empty row":     func(x *audit.Table) { x.Vertices = append(x.Vertices, audit.VertexRow{}) },
	} {
		y := townRows()
		change(&y)
		if audit.Same(x, y) || audit.Same(y, x) {
			t.Errorf("Same of %s is true", what)
		}
		isSame(t, y, copied(y), true)
	}
}

// Promise 18.2: Draw.

// draws fails the test unless that is the table that is drawn of a plan; what is
// told may not change the plan.
func draws(t *testing.T, what string, p plan.Plan, attrs []int, want audit.Table) {
	t.Helper()
	before, list := plan.Plan{Vertices: slices.Clone(p.Vertices), Edges: slices.Clone(p.Edges)}, slices.Clone(attrs)
	got, e := audit.Draw(p, attrs)
	if e != api.OK || !alike(got, want) {
		t.Errorf("Draw of %s = %v, %d, not %v", what, got, e, want)
	}
	if !samePlan(p, before) || !slices.Equal(attrs, list) {
		t.Fatalf("Draw of %s changed what was handed in", what)
	}
}

// refuses fails the test unless no table is drawn.
func refuses(t *testing.T, what string, p plan.Plan, attrs []int) {
	t.Helper()
	if got, e := audit.Draw(p, attrs); e != api.ErrArg || !alike(got, audit.Table{}) {
		t.Errorf("Draw of %s = %v, %d", what, got, e)
	}
}

func TestDraw(t *testing.T) {
	draws(t, "the town", town(), townAttrs(), townRows())
	draws(t, "nothing", plan.Plan{}, nil, audit.Table{Faces: []api.Face{{}}})
	draws(t, "nothing", plan.Plan{Vertices: []api.Vertex{}, Edges: []api.Edge{}}, []int{5}, audit.Table{Faces: []api.Face{{Attr: 5}}})
	draws(t, "a vertex", plan.Plan{Vertices: []api.Vertex{{Id: 4, At: at(1, 1)}}}, nil,
		audit.Table{LastVertex: 4, Vertices: []audit.VertexRow{{Id: 4, At: at(1, 1)}}, Faces: []api.Face{{}}})
	draws(t, "an edge", plan.Plan{Vertices: []api.Vertex{{Id: 1}, {Id: 2, At: at(1, 1)}}, Edges: []api.Edge{{Id: 9, A: 2, B: 1}}}, []int{0},
		audit.Table{
			LastVertex: 2, LastEdge: 9,
			Vertices: []audit.VertexRow{{Id: 1, Face: -1}, {Id: 2, At: at(1, 1), Face: -1}},
			Edges:    []audit.EdgeRow{{Id: 9, A: 2, B: 1, Next: [2]api.Half{back(9), fore(9)}, Prev: [2]api.Half{back(9), fore(9)}}},
			Faces:    []api.Face{{}},
		})
}

func TestDrawWithAttributes(t *testing.T) {
	for _, attrs := range [][]int{nil, {}, {1}, {api.MaxAttr, 0, 3}, {1, 2, 3, 4, 5}, {1, 2, 3, 4, 5, 6}, {0, 0, 0, 0, 0, 0, api.MaxAttr}} {
		want := townRows()
		for i := range want.Faces {
			want.Faces[i].Attr = 0
			if i < len(attrs) {
				want.Faces[i].Attr = attrs[i]
			}
		}
		draws(t, "the town", town(), attrs, want)
	}
	for _, wrong := range []int{-1, api.MaxAttr + 1, math.MinInt, math.MaxInt} {
		for i := range 7 { // behind all faces, too
			attrs := make([]int, 7)
			attrs[i] = wrong
			refuses(t, "the town with a wrong attribute", town(), attrs)
			refuses(t, "nothing with a wrong attribute", plan.Plan{}, attrs)
			refuses(t, "the town with a wrong attribute, the last one", town(), attrs[:i+1])
		}
	}
}

func TestDrawWithGreatNumbers(t *testing.T) {
	p := town()
	p.Vertices[22].Id, p.Edges[7].Id = most, 9
	want := townRows()
	want.Vertices[22].Id, want.LastVertex = most, most
	draws(t, "a great vertex", p, townAttrs(), want)
	two := []api.Vertex{{Id: most - 1}, {Id: most, At: at(1, 1)}}
	draws(t, "great numbers", plan.Plan{Vertices: two, Edges: []api.Edge{{Id: most, A: most, B: most - 1}}}, nil,
		audit.Table{
			LastVertex: most, LastEdge: most,
			Vertices: []audit.VertexRow{{Id: most - 1, Face: -1}, {Id: most, At: at(1, 1), Face: -1}},
			Edges:    []audit.EdgeRow{{Id: most, A: most, B: most - 1, Next: [2]api.Half{back(most), fore(most)}, Prev: [2]api.Half{back(most), fore(most)}}},
			Faces:    []api.Face{{}},
		})
	for _, beyond := range []int{most + 1, math.MaxInt} {
		p := town()
		p.Vertices[22].Id = beyond
		refuses(t, "a vertex too great", p, nil)
		refuses(t, "a vertex alone, too great", plan.Plan{Vertices: []api.Vertex{{Id: beyond}}}, nil)
		p = plan.Plan{Vertices: two, Edges: []api.Edge{{Id: beyond, A: most, B: most - 1}}}
		refuses(t, "an edge too great", p, nil)
	}
}

func TestDrawOfWrongPlans(t *testing.T) {
	for what, spoil := range map[string]func(p *plan.Plan){
		"a vertex 0":                     func(p *plan.Plan) { p.Vertices[0].Id = 0; p.Edges = p.Edges[8:] },
		"a vertex out of order":          func(p *plan.Plan) { p.Vertices[16].Id = 31 },
		"a vertex too far out":           func(p *plan.Plan) { p.Vertices[16].At.X = far + 1 },
		"a point twice":                  func(p *plan.Plan) { p.Vertices[16].At = at(4, 4) },
		"a vertex on an edge":            func(p *plan.Plan) { p.Vertices[16].At = at(0, 1) },
		"an edge 0":                      func(p *plan.Plan) { p.Edges[0].Id = 0 },
		"an edge out of order":           func(p *plan.Plan) { p.Edges[15].Id = 1 },
		"two edges of one number":        func(p *plan.Plan) { p.Edges[15].Id = 21 },
		"an edge from a vertex to it":    func(p *plan.Plan) { p.Edges[15].B = 20 },
		"an edge to no vertex":           func(p *plan.Plan) { p.Edges[15].B = 10 },
		"the same edge the other way":    func(p *plan.Plan) { p.Edges[15].A, p.Edges[15].B = 21, 13 },
		"edges that cross":               func(p *plan.Plan) { p.Edges[15].A = 11 },
		"no vertices":                    func(p *plan.Plan) { p.Vertices = nil },
		"vertices alone, a point twice":  func(p *plan.Plan) { p.Edges = nil; p.Vertices[16].At = at(4, 4) },
		"an edge more than there may be": func(p *plan.Plan) { *p = mesh(16, 32, 5); p.Edges = p.Edges[:1025] },
		"too many vertices":              func(p *plan.Plan) { *p = mesh(27, 19, 1); p.Edges = p.Edges[:20] },
	} {
		p := town()
		spoil(&p)
		refuses(t, what, p, nil)
		refuses(t, what, p, townAttrs())
	}
}

// Promise 18.3: what is drawn is sound; with one other number it is so no more, but
// for those that may be other ones.

// holds fails the test unless of a right plan that is drawn which the model tells,
// and it is sound.
func holds(t *testing.T, p plan.Plan, s *stirred) (*world, audit.Table) {
	t.Helper()
	w := worldOf(p)
	attrs := make([]int, s.below(5))
	for i := range attrs {
		attrs[i] = s.below(api.MaxAttr + 1)
	}
	want := w.drawn(attrs)
	draws(t, "a plan", p, attrs, want)
	checks(t, "what was drawn", want, api.OK)
	if q := audit.Plan(want); !samePlan(p, q) {
		t.Fatalf("Plan of what was drawn of %v = %v", p, q)
	}
	if !w.sound(want) {
		t.Fatalf("the model says that %v isn't sound", want)
	}
	return w, want
}

// isSound fails the test unless it is told of a table what the model tells.
func isSound(t *testing.T, w *world, x audit.Table) bool {
	t.Helper()
	want := w.sound(x)
	if got := audit.Check(x) == api.OK; got != want {
		t.Fatalf("Check(%v) is OK: %t", x, got)
	}
	return want
}

// mayBe tells whether a number of that kind may be another one, where the model says
// so. Points and the numbers of vertices alone aren't named by the promise, but by
// the definition they are free.
func mayBe(k kind) bool { return k == ofAttr || k == ofLast || k == ofPoint || k == ofId }

// oneOther changes each number of a sound table, some alone.
func oneOther(t *testing.T, w *world, x audit.Table, s *stirred, share int) {
	t.Helper()
	for i := range numbers(&x) {
		if s.below(share) > 0 {
			continue
		}
		y := copied(x)
		n := numbers(&y)[i]
		for _, other := range others(x, *n.of, s) {
			*n.of = other
			if isSound(t, w, y) && !mayBe(n.kind) {
				t.Fatalf("%v is sound", y)
			}
		}
	}
	for i := range flags(&x) {
		y := copied(x)
		f := flags(&y)[i]
		*f = !*f
		if s.below(share) == 0 && isSound(t, w, y) {
			t.Fatalf("%v is sound", y)
		}
	}
}

func TestOneOtherNumber(t *testing.T) {
	x := townRows()
	oneOther(t, worldOf(town()), x, &stirred{1}, 1)
	for i := range x.Vertices {
		y := copied(x)
		id := &y.Vertices[i].Id
		*id++
		y.LastVertex++
		alone := x.Vertices[i].Face >= 0 && (i == 22 || x.Vertices[i+1].Id > *id)
		if audit.Check(y) == api.OK != alone {
			t.Errorf("Check of a vertex %d in the stead of another one is OK: %t", *id, !alone)
		}
	}
}

func TestAllSmallPlans(t *testing.T) {
	s := &stirred{1}
	tried := 0
	for set := range 1 << 9 {
		var corners []api.Point
		for i := range 9 {
			if set>>i&1 == 1 {
				corners = append(corners, at(4*(i/3), 4*(i%3)))
			}
		}
		n := len(corners)
		if n > 5 {
			continue
		}
		var p plan.Plan
		for _, c := range corners {
			add(&p, c)
		}
		grow(p, pairs(n), func(p plan.Plan) {
			tried++
			if n < 4 {
				w, x := holds(t, p, s)
				oneOther(t, w, x, s, 8)
			}
			w, x := holds(t, renumbered(p, s), s)
			oneOther(t, w, x, s, 250)
		})
	}
	if tried < 20000 {
		t.Errorf("%d plans were tried", tried)
	}
}

func TestMixedPlans(t *testing.T) {
	for seed := range uint64(40) {
		s := &stirred{seed}
		for _, side := range []int{1, 7, far / 4} {
			w, x := holds(t, mixed(s, side), s)
			oneOther(t, w, x, s, 20)
			otherRows(t, w, x)
			otherNames(t, w, x, s)
		}
	}
}

// otherRows leaves out each row of a sound table, has it twice, and changes it with
// the one behind it.
func otherRows(t *testing.T, w *world, x audit.Table) {
	t.Helper()
	alter(t, w, x, func(y *audit.Table) *[]audit.VertexRow { return &y.Vertices })
	alter(t, w, x, func(y *audit.Table) *[]audit.EdgeRow { return &y.Edges })
	alter(t, w, x, func(y *audit.Table) *[]api.Face { return &y.Faces })
}

func alter[R any](t *testing.T, w *world, x audit.Table, rows func(y *audit.Table) *[]R) {
	t.Helper()
	for i := range *rows(&x) {
		y := copied(x)
		l := rows(&y)
		*l = slices.Delete(*l, i, i+1)
		isSound(t, w, y)
		y = copied(x)
		*l = slices.Insert(*l, i, (*l)[i])
		if isSound(t, w, y) {
			t.Fatalf("%v is sound", y)
		}
		y = copied(x)
		if i+1 < len(*l) {
			(*l)[i], (*l)[i+1] = (*l)[i+1], (*l)[i]
			if isSound(t, w, y) {
				t.Fatalf("%v is sound", y)
			}
		}
	}
}

// otherNames calls the faces of a sound table by others, throughout: as long as these
// are others for each, and the one without an end is 0, it is sound.
func otherNames(t *testing.T, w *world, x audit.Table, s *stirred) {
	t.Helper()
	n := len(x.Faces)
	names := map[int]int{}
	for i, k := range s.order(n - 1) {
		names[1+i] = 1 + 1000*k + s.below(1000)
	}
	y := copied(x)
	rename(&y, as(names))
	if !isSound(t, w, y) {
		t.Fatalf("%v isn't sound", y)
	}
	for a := range n {
		for b := range a {
			y := copied(x)
			rename(&y, as(map[int]int{a: b, b: a}))
			if isSound(t, w, y) != (b > 0) {
				t.Fatalf("%v is sound: %t", y, b == 0)
			}
			y = copied(x)
			rename(&y, as(map[int]int{a: b}))
			if isSound(t, w, y) {
				t.Fatalf("%v is sound", y)
			}
			y.Faces = slices.Clone(x.Faces)
			if isSound(t, w, y) {
				t.Fatalf("%v is sound", y)
			}
		}
	}
}

// TestAsMuchAsMayBe has plans at the limits, and one vertex or edge beyond them.
func TestAsMuchAsMayBe(t *testing.T) {
	full := mesh(16, 32, 5)
	full.Edges = full.Edges[:1024:1024]
	var loose, squares plan.Plan
	for i := range 512 {
		add(&loose, at(i%23, i/23))
	}
	for i := range 128 {
		box(&squares, at(-i-1, -i-1), at(i+1, i+1))
	}
	for what, p := range map[string]plan.Plan{"a mesh": full, "vertices": loose, "squares": squares} {
		if len(p.Vertices) != 512 || !plan.Right(p) {
			t.Fatalf("%s has %d vertices", what, len(p.Vertices))
		}
		for _, q := range []plan.Plan{p, renumbered(p, &stirred{7})} {
			x, e := audit.Draw(q, []int{3})
			if e != api.OK || !samePlan(planOf(x), q) {
				t.Fatalf("Draw of %s = %d", what, e)
			}
			checks(t, what, x, api.OK)
			x.Vertices = append(x.Vertices, audit.VertexRow{Id: x.LastVertex + 1, At: at(far, far)})
			x.LastVertex++
			checks(t, what+" with a vertex too many", x, api.ErrBad)
		}
	}
	x, _ := audit.Draw(squares, nil)
	for i, f := range x.Faces {
		if r := x.Edges[4*max(i-1, 0)]; len(x.Faces) != 129 || f.Id != i || i > 0 && r.Face[0] != i || r.Face[1] != (max(i, 1)+1)%129 {
			t.Fatalf("squares in squares: the face %d, %v", i, r)
		}
	}
}

// What all of these promises say of memory.

// TestWhatIsHandedInStays has lists with spare room behind them, which no call may
// write into.
func TestWhatIsHandedInStays(t *testing.T) {
	long := townRows()
	long.Vertices = append(long.Vertices, audit.VertexRow{Id: 77})
	long.Edges = append(long.Edges, audit.EdgeRow{Id: 77})
	long.Faces = append(long.Faces, api.Face{Id: 77})
	whole := copied(long)
	x := long
	x.Vertices, x.Edges, x.Faces = long.Vertices[:23], long.Edges[:16], long.Faces[:5]
	checks(t, "the town", x, api.OK)
	isSame(t, x, townRows(), true)
	if p := audit.Plan(x); !samePlan(p, town()) {
		t.Errorf("Plan of the town = %v", p)
	}
	if !alike(long, whole) {
		t.Fatal("a table that was handed in was changed")
	}
	p := town()
	p.Vertices, p.Edges = append(p.Vertices, api.Vertex{Id: 77}), append(p.Edges, api.Edge{Id: 77})
	attrs := append(townAttrs(), 77)
	q := plan.Plan{Vertices: p.Vertices[:23], Edges: p.Edges[:16]}
	draws(t, "the town", q, attrs[:5], townRows())
	if p.Vertices[23].Id != 77 || p.Edges[16].Id != 77 || attrs[5] != 77 {
		t.Fatal("a plan that was handed in was changed")
	}
}

// TestWhatIsHandedOutIsNew writes into answers, and behind their ends.
func TestWhatIsHandedOutIsNew(t *testing.T) {
	x, p := townRows(), town()
	first, second := audit.Plan(x), audit.Plan(x)
	spoil(first.Vertices, api.Vertex{Id: 77})
	spoil(first.Edges, api.Edge{Id: 77})
	if !samePlan(second, p) || !samePlan(audit.Plan(x), p) {
		t.Fatal("two plans share memory")
	}
	attrs := townAttrs()
	a, _ := audit.Draw(p, attrs)
	b, _ := audit.Draw(p, attrs)
	spoil(a.Vertices, audit.VertexRow{Id: 77})
	spoil(a.Edges, audit.EdgeRow{Id: 77})
	spoil(a.Faces, api.Face{Id: 77})
	draws(t, "the town", p, attrs, x)
	spoil(p.Vertices, api.Vertex{Id: 77})
	spoil(p.Edges, api.Edge{Id: 77})
	spoil(attrs, 77)
	if !alike(b, x) {
		t.Fatal("a table shares memory with another one, or with its plan")
	}
}

// spoil overwrites a list and the room behind it.
func spoil[E any](l []E, by E) {
	for i := range l[:cap(l)] {
		l[:cap(l)][i] = by
	}
}
