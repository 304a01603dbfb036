package base_test

import (
	"math"
	"math/rand"
	"reflect"
	"slices"
	"strings"
	"testing"

	"hachure/api"
	"hachure/base"
	"hachure/point"
	"hachure/sample"
)

const (
	least = math.MinInt
	most  = math.MaxInt
	far   = api.MaxCoord
	maxId = 1 << 30
)

var (
	pt  = sample.Pt
	pts = sample.Pts
)

// example returns the map of the chapter's examples.
func example() api.Map {
	return api.Map{
		Edges:  []api.Edge{{Id: 1, Line: pts(0, 0, 10, 0, 10, 10, 0, 0), Left: 5}},
		Faces:  []api.Face{{Id: 5, Class: "field", Weight: 9, District: 2}},
		Ways:   []api.Way{{Id: 6, Line: pts(0, 20, 9, 20), Class: "path", Weight: 1, District: 3}},
		Places: []api.Place{{Id: 7, At: pt(8, 3), Class: "tree", Weight: 1, District: 2}},
	}
}

// town returns a map with several things of each kind: two squares beside each other, with a hole in the second one.
func town() api.Map {
	return api.Map{
		Edges: []api.Edge{
			{Id: 14, Line: pts(10, 0, 0, 0, 0, 10, 10, 10), Left: 0, Right: 22},
			{Id: 11, Line: pts(10, 0, 10, 10), Left: 22, Right: 21},
			{Id: 13, Line: pts(10, 0, 20, 0, 20, 10, 10, 10), Left: 21, Right: 0},
			{Id: 12, Line: pts(12, 2, 16, 2, 16, 6, 12, 2), Left: 23, Right: 21},
		},
		Faces: []api.Face{
			{Id: 22, Class: "field", Name: "Long Field", Weight: 9, District: 2},
			{Id: 21, Class: "park", Weight: 255, District: 4},
			{Id: 23, Class: "water", Name: "Mere", Weight: 1, District: 4},
		},
		Ways: []api.Way{
			{Id: 33, Line: pts(0, 20, 9, 20), Class: "path", Name: "North Walk", Weight: 1, District: 2},
			{Id: 31, Line: pts(9, 20, 9, -3), Level: 1, Class: "bridge", Stairs: true, Weight: 7, District: 4},
			{Id: 32, Line: pts(0, 20, 0, 25), Class: "path", Weight: 5, District: 16},
		},
		Places: []api.Place{
			{Id: 42, At: pt(3, 3), Class: "tree", Weight: 1, District: 2},
			{Id: 41, At: pt(14, 3), Class: "boat", Name: "Swan", Weight: 2, District: 4},
			{Id: 43, At: pt(18, 3), Class: "gate", Name: "East Gate", Weight: 3, District: 4},
		},
	}
}

// changed returns m with a change, in memory of its own.
func changed(m api.Map, change func(*api.Map)) api.Map {
	m = sample.CloneMap(m)
	change(&m)
	return m
}

// full returns m without nil slices.
func full(m api.Map) api.Map {
	c := api.Map{Edges: append([]api.Edge{}, m.Edges...), Faces: append([]api.Face{}, m.Faces...), Ways: append([]api.Way{}, m.Ways...), Places: append([]api.Place{}, m.Places...)}
	for i := range c.Edges {
		c.Edges[i].Line = append([]api.Point{}, c.Edges[i].Line...)
	}
	for i := range c.Ways {
		c.Ways[i].Line = append([]api.Point{}, c.Ways[i].Line...)
	}
	return c
}

// unchanged runs a call, and then compares m with what it was before, R3.
func unchanged(t *testing.T, m api.Map, call func()) {
	t.Helper()
	before := sample.CloneMap(m)
	call()
	if !reflect.DeepEqual(m, before) {
		t.Fatalf("%v has become %v", before, m)
	}
}

// towns visits random right maps.
func towns(seed int64, n int, visit func(r *rand.Rand, m api.Map)) {
	r := rand.New(rand.NewSource(seed))
	for range n {
		m, _ := sample.RandomTown(r)
		visit(r, m)
	}
}

// maps visits random maps: right ones, and ones of any kind.
func maps(seed int64, n int, visit func(r *rand.Rand, m api.Map)) {
	towns(seed, n/4, visit)
	r := rand.New(rand.NewSource(seed))
	for range n {
		visit(r, sample.AnyMap(r, 3))
	}
}

// element is an element of a list of a map.
type element struct{ kind, id, district int }

// elements returns all faces of m, then all ways, places and edges; edges have no district.
func elements(m api.Map) []element {
	var l []element
	for _, f := range m.Faces {
		l = append(l, element{api.KindFace, f.Id, f.District})
	}
	for _, w := range m.Ways {
		l = append(l, element{api.KindWay, w.Id, w.District})
	}
	for _, p := range m.Places {
		l = append(l, element{api.KindPlace, p.Id, p.District})
	}
	for _, e := range m.Edges {
		l = append(l, element{api.KindEdge, e.Id, 0})
	}
	return l
}

// set sorts numbers, and keeps each once.
func set(l []int) []int {
	different := map[int]bool{}
	for _, n := range l {
		different[n] = true
	}
	var all []int
	for n := range different {
		all = append(all, n)
	}
	slices.Sort(all)
	return all
}

func wantIds(m api.Map) []int {
	var l []int
	for _, x := range elements(m) {
		l = append(l, x.id)
	}
	return set(l)
}

func wantDistricts(m api.Map) []int {
	var l []int
	for _, x := range elements(m) {
		if x.kind != api.KindEdge {
			l = append(l, x.district)
		}
	}
	return set(l)
}

// wantKind takes the first element with the Id, since elements come in the order of P10.2.
func wantKind(m api.Map, id int) int {
	for _, x := range elements(m) {
		if x.id == id {
			return x.kind
		}
	}
	return 0
}

// firstFace returns the first face with this Id.
func firstFace(m api.Map, id int) (api.Face, bool) {
	i := slices.IndexFunc(m.Faces, func(f api.Face) bool { return f.Id == id })
	if i < 0 {
		return api.Face{}, false
	}
	return m.Faces[i], true
}

// wantDistrict follows P10.3.
func wantDistrict(m api.Map, id int) int {
	for _, x := range elements(m) {
		if x.id == id && x.kind != api.KindEdge {
			return x.district
		}
	}
	for _, e := range m.Edges {
		if e.Id == id {
			left, leftOk := firstFace(m, e.Left)
			right, rightOk := firstFace(m, e.Right)
			if leftOk && rightOk && left.District == right.District {
				return left.District
			}
			return 0
		}
	}
	return 0
}

// wantPart follows P10.4.
func wantPart(m api.Map, d int) api.Map {
	var part api.Map
	for _, e := range m.Edges {
		if slices.ContainsFunc(m.Faces, func(f api.Face) bool { return f.District == d && (f.Id == e.Left || f.Id == e.Right) }) {
			part.Edges = append(part.Edges, e)
		}
	}
	for _, f := range m.Faces {
		if f.District == d {
			part.Faces = append(part.Faces, f)
		}
	}
	for _, w := range m.Ways {
		if w.District == d {
			part.Ways = append(part.Ways, w)
		}
	}
	for _, p := range m.Places {
		if p.District == d {
			part.Places = append(part.Places, p)
		}
	}
	return part
}

// pointsOf returns all points of Lines, and of places.
func pointsOf(m api.Map) []api.Point {
	var l []api.Point
	for _, e := range m.Edges {
		l = append(l, e.Line...)
	}
	for _, w := range m.Ways {
		l = append(l, w.Line...)
	}
	for _, p := range m.Places {
		l = append(l, p.At)
	}
	return l
}

// wantBox follows P10.6.
func wantBox(m api.Map, d int) (api.Rect, bool) {
	l := pointsOf(wantPart(m, d))
	if len(l) == 0 {
		return api.Rect{}, false
	}
	box := api.Rect{X0: most, Y0: most, X1: least, Y1: least}
	for _, p := range l {
		box = api.Rect{X0: min(box.X0, p.X), Y0: min(box.Y0, p.Y), X1: max(box.X1, p.X), Y1: max(box.Y1, p.Y)}
	}
	return box, true
}

// wantNorm inserts each element ahead of the first one that has a greater Id.
func wantNorm(m api.Map) api.Map {
	var norm api.Map
	for _, e := range m.Edges {
		norm.Edges = inserted(norm.Edges, e, func(o api.Edge) bool { return o.Id > e.Id })
	}
	for _, f := range m.Faces {
		norm.Faces = inserted(norm.Faces, f, func(o api.Face) bool { return o.Id > f.Id })
	}
	for _, w := range m.Ways {
		norm.Ways = inserted(norm.Ways, w, func(o api.Way) bool { return o.Id > w.Id })
	}
	for _, p := range m.Places {
		norm.Places = inserted(norm.Places, p, func(o api.Place) bool { return o.Id > p.Id })
	}
	return norm
}

func inserted[T any](l []T, x T, greater func(T) bool) []T {
	i := slices.IndexFunc(l, greater)
	if i < 0 {
		i = len(l)
	}
	return slices.Insert(l, i, x)
}

func checkIds(t *testing.T, m api.Map, want ...int) {
	t.Helper()
	unchanged(t, m, func() {
		if got := base.Ids(m); !slices.Equal(got, want) {
			t.Fatalf("Ids(%v) = %v, want %v", m, got, want)
		}
	})
}

func checkKind(t *testing.T, m api.Map, id, want int) {
	t.Helper()
	unchanged(t, m, func() {
		if got := base.Kind(m, id); got != want {
			t.Fatalf("Kind(%v, %d) = %d, want %d", m, id, got, want)
		}
	})
}

func checkDistrict(t *testing.T, m api.Map, id, want int) {
	t.Helper()
	unchanged(t, m, func() {
		if got := base.District(m, id); got != want {
			t.Fatalf("District(%v, %d) = %d, want %d", m, id, got, want)
		}
	})
}

func checkDistricts(t *testing.T, m api.Map, want ...int) {
	t.Helper()
	unchanged(t, m, func() {
		if got := base.Districts(m); !slices.Equal(got, want) {
			t.Fatalf("Districts(%v) = %v, want %v", m, got, want)
		}
	})
}

func checkPart(t *testing.T, m api.Map, d int, want api.Map) {
	t.Helper()
	unchanged(t, m, func() {
		if got := base.Part(m, d); !sample.SameMap(got, want) {
			t.Fatalf("Part(%v, %d) = %v, want %v", m, d, got, want)
		}
	})
}

func checkNorm(t *testing.T, m, want api.Map) {
	t.Helper()
	unchanged(t, m, func() {
		if got := base.Norm(m); !sample.SameMap(got, want) {
			t.Fatalf("Norm(%v) = %v, want %v", m, got, want)
		}
	})
}

func checkSame(t *testing.T, a, b api.Map, want bool) {
	t.Helper()
	unchanged(t, a, func() {
		unchanged(t, b, func() {
			if got := base.Same(a, b); got != want {
				t.Fatalf("Same(%v, %v) = %v", a, b, got)
			}
		})
	})
}

func checkBox(t *testing.T, m api.Map, d int, want api.Rect, wantOk bool) {
	t.Helper()
	unchanged(t, m, func() {
		if got, ok := base.Box(m, d); got != want || ok != wantOk {
			t.Fatalf("Box(%v, %d) = %v, %v, want %v, %v", m, d, got, ok, want, wantOk)
		}
	})
}

func TestIds(t *testing.T) { // P10.2
	checkIds(t, example(), 1, 5, 6, 7)
	checkIds(t, town(), 11, 12, 13, 14, 21, 22, 23, 31, 32, 33, 41, 42, 43)
	checkIds(t, api.Map{})
	checkIds(t, api.Map{Edges: []api.Edge{}, Faces: []api.Face{}, Ways: []api.Way{}, Places: []api.Place{}})
	checkIds(t, api.Map{Edges: []api.Edge{{Id: 3}, {Id: 2}, {Id: 3}}}, 2, 3)
	checkIds(t, api.Map{Faces: []api.Face{{Id: 3}, {Id: 2}, {Id: 3}}}, 2, 3)
	checkIds(t, api.Map{Ways: []api.Way{{Id: 3}, {Id: 2}, {Id: 3}}}, 2, 3)
	checkIds(t, api.Map{Places: []api.Place{{Id: 3}, {Id: 2}, {Id: 3}}}, 2, 3)
	// Ids need not be right, nor different; Left and Right are not those of the edge.
	checkIds(t, api.Map{
		Edges:  []api.Edge{{Id: most, Left: 8, Right: 9}, {Id: 4}},
		Faces:  []api.Face{{Id: 4}, {Id: least}},
		Ways:   []api.Way{{Id: 0}, {Id: 4}},
		Places: []api.Place{{Id: -1}, {Id: most}},
	}, least, -1, 0, 4, most)
}

func TestKind(t *testing.T) { // P10.2
	for id, want := range map[int]int{1: 4, 5: 1, 6: 2, 7: 3, 8: 0, 0: 0, -1: 0, most: 0, least: 0} {
		checkKind(t, example(), id, want)
	}
	for id, want := range map[int]int{11: api.KindEdge, 13: api.KindEdge, 21: api.KindFace, 23: api.KindFace, 31: api.KindWay, 32: api.KindWay, 41: api.KindPlace, 43: api.KindPlace} {
		checkKind(t, town(), id, want)
		checkKind(t, api.Map{}, id, 0)
	}
}

func TestKindOfEqualIds(t *testing.T) { // P10.2
	for _, id := range []int{1, 0, -1, least, most} {
		m := api.Map{Edges: []api.Edge{{Id: 2}, {Id: id}}, Places: []api.Place{{Id: 3}, {Id: id}}, Ways: []api.Way{{Id: 4}, {Id: id}}, Faces: []api.Face{{Id: 5}, {Id: id}}}
		checkKind(t, m, id, api.KindFace)
		m.Faces = nil
		checkKind(t, m, id, api.KindWay)
		m.Ways = nil
		checkKind(t, m, id, api.KindPlace)
		m.Places = nil
		checkKind(t, m, id, api.KindEdge)
		m.Edges = nil
		checkKind(t, m, id, 0)
	}
}

func TestDistrict(t *testing.T) { // P10.3
	for id, want := range map[int]int{1: 0, 5: 2, 6: 3, 7: 2, 8: 0, 0: 0, -1: 0, most: 0, least: 0} {
		checkDistrict(t, example(), id, want)
	}
	// The edge 12 is between two faces of one district, 11 between two districts, and 13 and 14 are at the outside.
	for id, want := range map[int]int{11: 0, 12: 4, 13: 0, 14: 0, 21: 4, 22: 2, 23: 4, 31: 4, 32: 16, 33: 2, 41: 4, 42: 2, 43: 4} {
		checkDistrict(t, town(), id, want)
		checkDistrict(t, api.Map{}, id, 0)
	}
}

func TestDistrictOfEqualIds(t *testing.T) { // P10.3
	for _, id := range []int{1, 0, -1, least, most} {
		m := api.Map{
			Edges:  []api.Edge{{Id: id, Left: 8, Right: 9}, {Id: id, Left: 9, Right: 10}},
			Faces:  []api.Face{{Id: 8, District: 20}, {Id: 9, District: 20}, {Id: 10, District: 30}, {Id: 8, District: 40}, {Id: 9, District: 50}, {Id: id, District: 6}, {Id: id, District: 7}},
			Ways:   []api.Way{{Id: 3}, {Id: id, District: 8}, {Id: id, District: 9}},
			Places: []api.Place{{Id: 3}, {Id: id, District: -1}, {Id: id, District: 11}},
		}
		checkDistrict(t, m, id, 6)
		m.Faces = m.Faces[:5]
		checkDistrict(t, m, id, 8)
		m.Ways = nil
		checkDistrict(t, m, id, -1)
		m.Places = nil
		checkDistrict(t, m, id, 20)
		m.Edges = m.Edges[1:]
		checkDistrict(t, m, id, 0)
	}
	// A district of 0 does not mean that there is nothing.
	checkDistrict(t, api.Map{Faces: []api.Face{{Id: 1}, {Id: 1, District: 5}}, Ways: []api.Way{{Id: 1, District: 5}}}, 1, 0)
	checkDistrict(t, api.Map{Ways: []api.Way{{Id: 1}}, Places: []api.Place{{Id: 1, District: 5}}}, 1, 0)
}

func TestDistrictOfEdges(t *testing.T) { // P10.3
	faces := []api.Face{{Id: 2, District: 5}, {Id: 3, District: 5}, {Id: 4, District: 6}, {Id: -9, District: most}, {Id: most, District: most}}
	for _, x := range [][3]int{{2, 3, 5}, {3, 2, 5}, {2, 2, 5}, {2, 4, 0}, {4, 2, 0}, {4, 4, 6}, {0, 2, 0}, {2, 0, 0}, {7, 2, 0}, {2, 7, 0}, {7, 7, 0}, {0, 0, 0}, {-9, most, most}} {
		checkDistrict(t, api.Map{Edges: []api.Edge{{Id: 1, Left: x[0], Right: x[1]}}, Faces: faces}, 1, x[2])
	}
	// There can be a face with the Id 0, in a map that is not right.
	checkDistrict(t, api.Map{Edges: []api.Edge{{Id: 1, Left: 2, Right: 0}}, Faces: append(faces, api.Face{District: 5})}, 1, 5)
	// Ways and places are not beside edges.
	checkDistrict(t, api.Map{Edges: []api.Edge{{Id: 1, Left: 2, Right: 3}}, Ways: []api.Way{{Id: 2, District: 5}}, Places: []api.Place{{Id: 3, District: 5}}}, 1, 0)
}

func TestDistricts(t *testing.T) { // P10.3
	checkDistricts(t, example(), 2, 3)
	checkDistricts(t, town(), 2, 4, 16)
	checkDistricts(t, api.Map{})
	checkDistricts(t, api.Map{Edges: town().Edges})
	checkDistricts(t, api.Map{Faces: []api.Face{{District: 3}, {District: 2}, {District: 3}}}, 2, 3)
	checkDistricts(t, api.Map{Ways: []api.Way{{District: 3}, {District: 2}, {District: 3}}}, 2, 3)
	checkDistricts(t, api.Map{Places: []api.Place{{District: 3}, {District: 2}, {District: 3}}}, 2, 3)
	checkDistricts(t, api.Map{Faces: []api.Face{{}, {District: most}}, Ways: []api.Way{{District: -1}, {}}, Places: []api.Place{{District: least}, {District: most}}}, least, -1, 0, most)
}

// partOfTown returns the map with the elements of town that have these indexes.
func partOfTown(edges, faces, ways, places []int) api.Map {
	return api.Map{Edges: at(town().Edges, edges), Faces: at(town().Faces, faces), Ways: at(town().Ways, ways), Places: at(town().Places, places)}
}

func at[T any](l []T, indexes []int) []T {
	var some []T
	for _, i := range indexes {
		some = append(some, l[i])
	}
	return some
}

func TestPart(t *testing.T) { // P10.4
	m := example()
	checkPart(t, m, 3, api.Map{Ways: m.Ways})
	checkPart(t, m, 2, api.Map{Edges: m.Edges, Faces: m.Faces, Places: m.Places})
	for _, d := range []int{0, 1, 4, 5, 16, -1, most, least} {
		checkPart(t, m, d, api.Map{})
		checkPart(t, api.Map{}, d, api.Map{})
	}
	checkPart(t, town(), 2, partOfTown([]int{0, 1}, []int{0}, []int{0}, []int{0}))
	checkPart(t, town(), 4, partOfTown([]int{1, 2, 3}, []int{1, 2}, []int{1}, []int{1, 2}))
	checkPart(t, town(), 16, partOfTown(nil, nil, []int{2}, nil))
	checkPart(t, town(), 0, api.Map{})
}

func TestPartOfWrongMaps(t *testing.T) { // P10.4
	m := api.Map{
		Edges:  []api.Edge{{Id: 1, Left: 2, Right: 2}, {Id: 1, Left: 0, Right: 9}, {Id: 2, Left: 9, Right: 3}, {Id: 3, Left: 4, Right: 9}},
		Faces:  []api.Face{{Id: 3, District: most}, {Id: 2, District: most}, {Id: 3, District: 1}, {Id: 3, District: most}, {Id: 4}, {Id: 0, District: 7}},
		Ways:   []api.Way{{Id: 2}, {Id: 9, District: most}, {Id: 9, District: most}},
		Places: []api.Place{{Id: 9, District: 1}, {Id: 2, District: least}},
	}
	checkPart(t, m, most, api.Map{Edges: []api.Edge{m.Edges[0], m.Edges[2]}, Faces: []api.Face{m.Faces[0], m.Faces[1], m.Faces[3]}, Ways: m.Ways[1:]})
	checkPart(t, m, 1, api.Map{Edges: m.Edges[2:3], Faces: m.Faces[2:3], Places: m.Places[:1]})
	checkPart(t, m, 0, api.Map{Edges: m.Edges[3:], Faces: m.Faces[4:5], Ways: m.Ways[:1]})
	checkPart(t, m, 7, api.Map{Edges: m.Edges[1:2], Faces: m.Faces[5:]})
	checkPart(t, m, least, api.Map{Places: m.Places[1:]})
	checkPart(t, m, 2, api.Map{})
}

func TestNorm(t *testing.T) { // P10.5
	checkNorm(t, example(), example())
	checkNorm(t, api.Map{}, api.Map{})
	checkNorm(t, town(), partOfTown([]int{1, 3, 2, 0}, []int{1, 0, 2}, []int{1, 2, 0}, []int{1, 0, 2}))
	// Elements with the same Id keep their order, and Ids need not be right.
	m := api.Map{
		Edges:  []api.Edge{{Id: 4, Left: 1}, {Id: most, Left: 2}, {Id: 4, Left: 0}, {Id: least, Left: 3}, {Id: most, Left: 1}, {Id: 4, Left: 1}},
		Faces:  []api.Face{{Id: 4, Weight: 1}, {Id: most, Weight: 2}, {Id: 4, Weight: 0}, {Id: least, Weight: 3}, {Id: most, Weight: 1}, {Id: 4, Weight: 1}},
		Ways:   []api.Way{{Id: 4, Weight: 1}, {Id: most, Weight: 2}, {Id: 4, Weight: 0}, {Id: least, Weight: 3}, {Id: most, Weight: 1}, {Id: 4, Weight: 1}},
		Places: []api.Place{{Id: 4, Weight: 1}, {Id: most, Weight: 2}, {Id: 4, Weight: 0}, {Id: least, Weight: 3}, {Id: most, Weight: 1}, {Id: 4, Weight: 1}},
	}
	order := []int{3, 0, 2, 5, 1, 4}
	checkNorm(t, m, api.Map{Edges: at(m.Edges, order), Faces: at(m.Faces, order), Ways: at(m.Ways, order), Places: at(m.Places, order)})
}

func TestNormOfLongLists(t *testing.T) { // P10.5
	// Long enough that a sort that is not stable changes the order of equal ones.
	r := rand.New(rand.NewSource(10))
	for range 20 {
		var m api.Map
		for i := range 200 {
			m.Edges = append(m.Edges, api.Edge{Id: r.Intn(5), Left: i})
			m.Faces = append(m.Faces, api.Face{Id: r.Intn(5), Weight: i})
			m.Ways = append(m.Ways, api.Way{Id: r.Intn(5), Weight: i})
			m.Places = append(m.Places, api.Place{Id: r.Intn(5), Weight: i})
		}
		checkNorm(t, m, wantNorm(m))
	}
}

// differences returns changes of a town, each of which is one of a single field, of an order or of a length.
func differences() []func(*api.Map) {
	return []func(*api.Map){
		func(m *api.Map) { m.Edges[3].Id++ },
		func(m *api.Map) { m.Edges[0].Left = 1 },
		func(m *api.Map) { m.Edges[1].Right = most },
		func(m *api.Map) { m.Edges[2].Line[1].X++ },
		func(m *api.Map) { m.Edges[2].Line[3].Y-- },
		func(m *api.Map) { m.Edges[2].Line = m.Edges[2].Line[:3] },
		func(m *api.Map) { m.Edges[2].Line = m.Edges[2].Line[1:] },
		func(m *api.Map) { m.Edges[2].Line = append(m.Edges[2].Line, pt(0, 0)) },
		func(m *api.Map) { m.Edges[2].Line = nil },
		func(m *api.Map) { slices.Reverse(m.Edges[0].Line) },
		func(m *api.Map) { m.Edges = m.Edges[:3] },
		func(m *api.Map) { m.Edges = append(m.Edges, api.Edge{}) },
		func(m *api.Map) { m.Edges = nil },
		func(m *api.Map) { slices.Reverse(m.Edges) },
		func(m *api.Map) { m.Faces[0].Id = 0 },
		func(m *api.Map) { m.Faces[1].Class = "Park" },
		func(m *api.Map) { m.Faces[2].Name = "mere" },
		func(m *api.Map) { m.Faces[0].Weight = -9 },
		func(m *api.Map) { m.Faces[2].District = 3 },
		func(m *api.Map) { m.Faces = m.Faces[1:] },
		func(m *api.Map) { m.Faces = append(m.Faces, m.Faces[2]) },
		func(m *api.Map) { slices.Reverse(m.Faces) },
		func(m *api.Map) { m.Ways[0].Id = -33 },
		func(m *api.Map) { m.Ways[1].Level = -1 },
		func(m *api.Map) { m.Ways[2].Class = "" },
		func(m *api.Map) { m.Ways[0].Name += " " },
		func(m *api.Map) { m.Ways[1].Stairs = false },
		func(m *api.Map) { m.Ways[2].Weight = 6 },
		func(m *api.Map) { m.Ways[2].District = 0 },
		func(m *api.Map) { m.Ways[2].Line[0].X-- },
		func(m *api.Map) { m.Ways[2].Line[1].Y = least },
		func(m *api.Map) { m.Ways[2].Line = m.Ways[2].Line[:1] },
		func(m *api.Map) { m.Ways[0].Line, m.Ways[2].Line = m.Ways[2].Line, m.Ways[0].Line },
		func(m *api.Map) { m.Ways = m.Ways[:2] },
		func(m *api.Map) { m.Ways = append(m.Ways, api.Way{}) },
		func(m *api.Map) { m.Ways[0], m.Ways[2] = m.Ways[2], m.Ways[0] },
		func(m *api.Map) { m.Places[0].Id = 44 },
		func(m *api.Map) { m.Places[1].At.X++ },
		func(m *api.Map) { m.Places[2].At.Y++ },
		func(m *api.Map) { m.Places[0].Class = "trees" },
		func(m *api.Map) { m.Places[0].Name = "x" },
		func(m *api.Map) { m.Places[2].Weight++ },
		func(m *api.Map) { m.Places[2].District = 5 },
		func(m *api.Map) { m.Places = nil },
		func(m *api.Map) { m.Places = append(m.Places, api.Place{}) },
		func(m *api.Map) { slices.Reverse(m.Places) },
	}
}

func TestSame(t *testing.T) { // P10.5
	checkSame(t, api.Map{}, api.Map{}, true)
	checkSame(t, example(), example(), true)
	checkSame(t, town(), town(), true)
	checkSame(t, town(), example(), false)
	checkSame(t, town(), base.Norm(town()), false)
	for i, change := range differences() {
		other := changed(town(), change)
		if sample.SameMap(town(), other) {
			t.Fatalf("the difference %d is none", i)
		}
		checkSame(t, town(), other, false)
		checkSame(t, other, town(), false)
		checkSame(t, other, sample.CloneMap(other), true)
	}
}

func TestSameOfNilAndEmpty(t *testing.T) { // P10.5, R1
	m := api.Map{Edges: []api.Edge{{Id: 1}}, Ways: []api.Way{{Id: 2}}}
	checkSame(t, m, full(m), true)
	checkSame(t, full(m), m, true)
	checkSame(t, api.Map{}, full(api.Map{}), true)
	checkSame(t, full(api.Map{}), api.Map{}, true)
}

func TestBox(t *testing.T) { // P10.6
	checkBox(t, example(), 2, api.Rect{X1: 10, Y1: 10}, true)
	checkBox(t, example(), 3, api.Rect{Y0: 20, X1: 9, Y1: 20}, true)
	checkBox(t, example(), 4, api.Rect{}, false)
	checkBox(t, town(), 2, api.Rect{X1: 10, Y1: 20}, true)
	checkBox(t, town(), 4, api.Rect{X0: 9, Y0: -3, X1: 20, Y1: 20}, true)
	checkBox(t, town(), 16, api.Rect{Y0: 20, Y1: 25}, true)
	for _, d := range []int{0, 1, 17, -1, most, least} {
		checkBox(t, town(), d, api.Rect{}, false)
		checkBox(t, api.Map{}, d, api.Rect{}, false)
	}
}

func TestBoxOfOneKind(t *testing.T) { // P10.6
	faces := []api.Face{{Id: 1, District: 5}, {Id: 2, District: 6}}
	edges := []api.Edge{{Id: 3, Left: 1, Line: pts(4, -7, 9, 8)}, {Id: 4, Right: 1, Line: pts(-5, 6, 0, 0)}, {Id: 5, Left: 2, Line: pts(99, 99)}}
	checkBox(t, api.Map{Edges: edges, Faces: faces}, 5, api.Rect{X0: -5, Y0: -7, X1: 9, Y1: 8}, true)
	checkBox(t, api.Map{Edges: edges, Faces: faces}, 6, api.Rect{X0: 99, Y0: 99, X1: 99, Y1: 99}, true)
	checkBox(t, api.Map{Faces: faces}, 5, api.Rect{}, false)
	checkBox(t, api.Map{Edges: []api.Edge{{Left: 1}}, Faces: faces, Ways: []api.Way{{District: 5}}}, 5, api.Rect{}, false)
	checkBox(t, api.Map{Edges: edges}, 5, api.Rect{}, false)
	checkBox(t, api.Map{Edges: edges}, 0, api.Rect{}, false)
	checkBox(t, api.Map{Ways: []api.Way{{Line: pts(1, 2, 3, 0), District: 5}, {Line: pts(9, 9), District: 6}, {District: 5}}}, 5, api.Rect{X0: 1, X1: 3, Y1: 2}, true)
	checkBox(t, api.Map{Places: []api.Place{{At: pt(most, 7), District: 5}, {At: pt(3, least), District: 5}, {At: pt(0, 9), District: 4}}}, 5, api.Rect{X0: 3, Y0: least, X1: most, Y1: 7}, true)
	// A single point at the origin is something, other than none.
	checkBox(t, api.Map{Places: []api.Place{{District: 5}}}, 5, api.Rect{}, true)
}

// numbersOf returns Ids, sides and districts of m, and some that it may not have.
func numbersOf(m api.Map) []int {
	l := []int{-1, 0, 1, 17, most}
	for _, x := range elements(m) {
		l = append(l, x.id, x.district)
	}
	return set(l)
}

func TestThingsOfManyMaps(t *testing.T) { // P10.2, P10.3
	equalIds, ofEdges := 0, 0
	maps(1, 800, func(_ *rand.Rand, m api.Map) {
		checkIds(t, m, wantIds(m)...)
		checkDistricts(t, m, wantDistricts(m)...)
		if len(wantIds(m)) < len(elements(m)) {
			equalIds++
		}
		for _, id := range numbersOf(m) {
			checkKind(t, m, id, wantKind(m, id))
			checkDistrict(t, m, id, wantDistrict(m, id))
			if wantKind(m, id) == api.KindEdge && wantDistrict(m, id) != 0 {
				ofEdges++
			}
		}
	})
	if equalIds < 300 || ofEdges < 300 {
		t.Errorf("only %d maps with equal Ids, and %d edges with a district", equalIds, ofEdges)
	}
}

func TestPartsOfManyMaps(t *testing.T) { // P10.4, P10.6
	several := 0
	maps(2, 800, func(_ *rand.Rand, m api.Map) {
		for _, d := range numbersOf(m) {
			want := wantPart(m, d)
			checkPart(t, m, d, want)
			box, ok := wantBox(m, d)
			checkBox(t, m, d, box, ok)
			if len(want.Edges) > 0 && len(want.Edges) < len(m.Edges) && len(want.Ways) > 0 && len(want.Places) > 0 {
				several++
			}
		}
	})
	if several < 100 {
		t.Errorf("only %d parts with some of all kinds", several)
	}
}

func TestNormOfManyMaps(t *testing.T) { // P10.5, P10.7
	maps(3, 2000, func(r *rand.Rand, m api.Map) {
		norm := wantNorm(m)
		checkNorm(t, m, norm)
		checkNorm(t, norm, norm)
		checkSame(t, m, norm, sample.SameMap(m, norm))
		other := sample.Disordered(r, m)
		checkSame(t, m, other, sample.SameMap(m, other))
	})
}

func TestOrderOfListsPlaysNoPart(t *testing.T) { // P10.7
	disorder := 0
	towns(4, 300, func(r *rand.Rand, m api.Map) {
		other := sample.Disordered(r, m)
		if !sample.SameMap(m, other) {
			disorder++
		}
		checkCheck(t, other, api.OK)
		checkCheck(t, base.Norm(other), api.OK)
		checkSame(t, base.Norm(other), base.Norm(m), true)
		for d := range api.MaxDistrict + 2 {
			checkSame(t, base.Norm(base.Part(other, d)), base.Norm(base.Part(m, d)), true)
			box, ok := base.Box(m, d)
			checkBox(t, other, d, box, ok)
		}
	})
	if disorder < 250 {
		t.Errorf("only %d other orders", disorder)
	}
}

// moved returns m with all points moved by v.
func moved(m api.Map, v api.Point) api.Map {
	return changed(m, func(m *api.Map) {
		for _, e := range m.Edges {
			for i := range e.Line {
				e.Line[i] = point.Add(e.Line[i], v)
			}
		}
		for _, w := range m.Ways {
			for i := range w.Line {
				w.Line[i] = point.Add(w.Line[i], v)
			}
		}
		for i := range m.Places {
			m.Places[i].At = point.Add(m.Places[i].At, v)
		}
	})
}

func TestTranslationChangesNothing(t *testing.T) { // P10.7
	towns(5, 300, func(r *rand.Rand, m api.Map) {
		box := point.Box(pointsOf(m))
		v := pt(r.Intn(2*far-(box.X1-box.X0)+1)-far-box.X0, r.Intn(2*far-(box.Y1-box.Y0)+1)-far-box.Y0)
		other := moved(m, v)
		checkCheck(t, other, api.OK)
		checkSame(t, moved(base.Norm(m), v), base.Norm(other), true)
		for d := range api.MaxDistrict + 2 {
			checkSame(t, moved(base.Part(m, d), v), base.Part(other, d), true)
			if box, ok := base.Box(m, d); ok {
				checkBox(t, other, d, api.Rect{X0: box.X0 + v.X, Y0: box.Y0 + v.Y, X1: box.X1 + v.X, Y1: box.Y1 + v.Y}, true)
			} else {
				checkBox(t, other, d, api.Rect{}, false)
			}
		}
	})
}

func TestEachThingInOnePart(t *testing.T) { // P10.8
	shared := 0
	towns(6, 400, func(_ *rand.Rand, m api.Map) {
		parts := map[int][]int{}
		for _, d := range append(base.Districts(m), 0, 17) {
			for _, id := range base.Ids(base.Part(m, d)) {
				parts[id] = append(parts[id], d)
			}
		}
		for _, x := range elements(m) {
			switch {
			case x.kind != api.KindEdge && !slices.Equal(parts[x.id], []int{x.district}):
				t.Fatalf("%v: %v is in the parts %v", m, x, parts[x.id])
			case x.kind == api.KindEdge && len(parts[x.id]) == 2:
				shared++
			}
		}
		for _, e := range m.Edges {
			left, _ := firstFace(m, e.Left)
			right, _ := firstFace(m, e.Right)
			want := slices.DeleteFunc(set([]int{left.District, right.District}), func(d int) bool { return d == 0 })
			if !slices.Equal(set(parts[e.Id]), want) || len(parts[e.Id]) != len(want) {
				t.Fatalf("%v: the edge %v is in the parts %v", m, e, parts[e.Id])
			}
		}
	})
	if shared < 1000 {
		t.Errorf("only %d edges in two parts", shared)
	}
}

func TestOthersChangeNothingInPart(t *testing.T) { // P10.8
	towns(7, 300, func(r *rand.Rand, m api.Map) {
		for _, d := range base.Districts(m) {
			part := base.Part(m, d)
			other := changed(m, func(m *api.Map) {
				m.Ways = slices.DeleteFunc(m.Ways, func(w api.Way) bool { return w.District != d && r.Intn(2) == 0 })
				m.Places = slices.DeleteFunc(m.Places, func(p api.Place) bool { return p.District != d && r.Intn(2) == 0 })
				for i := range m.Faces {
					if m.Faces[i].District != d {
						m.Faces[i].Name, m.Faces[i].District = "other", d+1
					}
				}
				m.Places = append(m.Places, api.Place{Id: maxId, District: d + 1})
			})
			checkSame(t, base.Part(other, d), part, true)
		}
	})
}

func TestResultsAreNew(t *testing.T) { // R3
	for name, call := range map[string]func(api.Map) api.Map{
		"Norm":   base.Norm,
		"Part 4": func(m api.Map) api.Map { return base.Part(m, 4) },
	} {
		m := town()
		// Lines of one array, which a result must not have in common either.
		line := pts(1, 2, 3, 4, 5, 6)
		m.Edges[1].Line, m.Edges[2].Line, m.Ways[1].Line = line[:1], line[:2], line[1:]
		want := call(sample.CloneMap(m))
		got := call(m)
		sample.Scribble(m)
		if !sample.SameMap(got, want) {
			t.Errorf("%s shares memory with its argument: %v", name, got)
		}
		for i := range got.Edges {
			sample.ScribbleLine(got.Edges[i].Line)
			for j := range got.Edges {
				if j != i && !slices.Equal(got.Edges[j].Line, want.Edges[j].Line) {
					t.Errorf("%s: the Lines of the edges %d and %d share memory", name, i, j)
				}
			}
			copy(got.Edges[i].Line, want.Edges[i].Line)
		}
		for i := range got.Ways {
			sample.ScribbleLine(got.Ways[i].Line)
		}
		for i := range got.Edges {
			if !slices.Equal(got.Edges[i].Line, want.Edges[i].Line) {
				t.Errorf("%s: the Line of the edge %d shares memory with that of a way", name, i)
			}
		}
	}
}

func TestListsOfNumbersAreNew(t *testing.T) { // R3
	m := town()
	clear(base.Ids(m))
	clear(base.Districts(m))
	checkIds(t, m, wantIds(town())...)
	checkDistricts(t, m, wantDistricts(town())...)
}

func TestAnyArguments(t *testing.T) { // P1, R3, R4
	maps(8, 400, func(r *rand.Rand, m api.Map) {
		other := sample.AnyMap(r, 3)
		id := sample.AnyNumber(r)
		unchanged(t, m, func() {
			for range 2 {
				base.Check(m)
				base.Ids(m)
				base.Kind(m, id)
				base.District(m, id)
				base.Districts(m)
				base.Part(m, id)
				base.Norm(m)
				base.Same(m, other)
				base.Box(m, id)
			}
		})
	})
}

// city returns a map with n elements of each kind, of four districts, all of which have the Line l, in order or not.
func city(r *rand.Rand, n int, l []api.Point) api.Map {
	m := api.Map{Edges: make([]api.Edge, n), Faces: make([]api.Face, n), Ways: make([]api.Way, n), Places: make([]api.Place, n)}
	name := strings.Repeat("x", 1000)
	for i, j := range r.Perm(n) {
		m.Edges[i] = api.Edge{Id: 4*j + 1, Line: l, Left: 4*i + 2, Right: 4*j + 2}
		m.Faces[i] = api.Face{Id: 4*j + 2, Name: name, District: j % 4}
		m.Ways[i] = api.Way{Id: 4*j + 3, Line: l, Name: name, District: j % 4}
		m.Places[i] = api.Place{Id: 4*j + 4, At: pt(j, -j), Name: name, District: j % 4}
	}
	return m
}

func TestLargeArguments(t *testing.T) { // P1, R5
	const n = 100000
	r := rand.New(rand.NewSource(9))
	m := city(r, n, pts(0, 0, 1, 1))
	checkCheck(t, m, api.ErrMany)
	if ids := base.Ids(m); len(ids) != 4*n || ids[0] != 1 || ids[4*n-1] != 4*n {
		t.Error("Ids")
	}
	norm := base.Norm(m)
	for i := range n {
		if norm.Edges[i].Id != 4*i+1 || norm.Faces[i].Id != 4*i+2 || norm.Ways[i].Id != 4*i+3 || norm.Places[i].Id != 4*i+4 {
			t.Fatalf("Norm: %d", i)
		}
	}
	part := base.Part(m, 3)
	if len(part.Faces) != n/4 || len(part.Ways) != n/4 || len(part.Places) != n/4 || len(part.Edges) < n/4 || len(part.Edges) > n/2 {
		t.Errorf("Part: %d, %d, %d, %d", len(part.Edges), len(part.Faces), len(part.Ways), len(part.Places))
	}
	if box, ok := base.Box(m, 3); !ok || box != (api.Rect{Y0: 1 - n, X1: n - 1, Y1: 1}) {
		t.Errorf("Box: %v", box)
	}
	if base.Kind(m, 4*n) != api.KindPlace || base.Kind(m, 4*n+1) != 0 || base.District(m, 4*n) != (n-1)%4 || !slices.Equal(base.Districts(m), []int{0, 1, 2, 3}) {
		t.Error("Kind, District or Districts")
	}
	if !base.Same(m, m) || base.Same(m, norm) {
		t.Error("Same")
	}
}
