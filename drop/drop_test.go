package drop_test

import (
	"math"
	"math/big"
	"math/rand"
	"reflect"
	"slices"
	"testing"

	"hachure/api"
	"hachure/base"
	"hachure/cover"
	"hachure/drop"
	"hachure/line"
	"hachure/point"
	"hachure/sample"
)

const (
	least = math.MinInt
	most  = math.MaxInt
	far   = api.MaxCoord
)

var (
	pt  = sample.Pt
	pts = sample.Pts
)

// example returns the map of the chapter's examples.
func example() api.Map {
	return api.Map{
		Edges: []api.Edge{
			{Id: 11, Line: pts(0, 0, 40, 0, 40, 40, 20, 40), Left: 2},
			{Id: 12, Line: pts(20, 40, 0, 40, 0, 0), Left: 1},
			{Id: 13, Line: pts(0, 0, 10, 12, 20, 14, 20, 40), Left: 1, Right: 2},
		},
		Faces: []api.Face{
			{Id: 1, Class: "field", Weight: 1, District: 1},
			{Id: 2, Class: "field", Weight: 1, District: 1},
		},
		Places: []api.Place{{Id: 21, At: pt(19, 20), Class: "tree", Weight: 1, District: 1}},
	}
}

// border returns a map whose only edge, 9, has the Line l, between two faces of the district 3.
func border(l ...api.Point) api.Map {
	return api.Map{
		Edges: []api.Edge{{Id: 9, Line: l, Left: 1, Right: 2}},
		Faces: []api.Face{{Id: 1, District: 3}, {Id: 2, District: 3}},
	}
}

// with returns m with more edges, in memory of its own.
func with(m api.Map, edges ...api.Edge) api.Map {
	m = sample.CloneMap(m)
	m.Edges = append(m.Edges, edges...)
	return m
}

// changed returns m with a change, in memory of its own.
func changed(m api.Map, change func(*api.Map)) api.Map {
	m = sample.CloneMap(m)
	change(&m)
	return m
}

// unchanged runs a call, and then compares m with what it was before, R3.
func unchanged(t *testing.T, m api.Map, call func()) {
	t.Helper()
	before := sample.CloneMap(m)
	call()
	if !reflect.DeepEqual(m, before) {
		t.Fatalf("%v has become %v", before, m)
	}
}

// firstEdge returns the first edge with this Id.
func firstEdge(m api.Map, id int) (api.Edge, bool) {
	for _, e := range m.Edges {
		if e.Id == id {
			return e, true
		}
	}
	return api.Edge{}, false
}

// districtOf returns the District of the first face with this Id.
func districtOf(m api.Map, id int) int {
	for _, f := range m.Faces {
		if f.Id == id {
			return f.District
		}
	}
	return 0
}

// cornerOf returns the points a, b and c of the corner n of the first edge with this Id.
func cornerOf(m api.Map, edge, n int) (a, b, c api.Point, ok bool) {
	e, ok := firstEdge(m, edge)
	if !ok || n < 1 || n > len(e.Line)-2 {
		return pt(0, 0), pt(0, 0), pt(0, 0), false
	}
	return e.Line[n-1], e.Line[n], e.Line[n+1], true
}

// without returns l without its point n.
func without(l []api.Point, n int) []api.Point {
	var rest []api.Point
	for i, p := range l {
		if i != n {
			rest = append(rest, p)
		}
	}
	return rest
}

// wantCan follows P12.1.
func wantCan(m api.Map, edge, n int) api.Errno {
	e, ok := firstEdge(m, edge)
	if !ok {
		return api.ErrNone
	}
	a, b, c, ok := cornerOf(m, edge, n)
	if !ok {
		return api.ErrArg
	}
	if left, right := districtOf(m, e.Left), districtOf(m, e.Right); left != right || left == 0 {
		return api.ErrBorder
	}
	if line.Check(without(e.Line, n)) != api.OK {
		return api.ErrLine
	}
	seen := false
	for _, f := range m.Edges {
		own := f.Id == edge && !seen
		seen = seen || own
		for i := 1; i < len(f.Line); i++ {
			if (!own || i != n && i != n+1) && line.Touches(a, b, c, f.Line[i-1], f.Line[i]) {
				return api.ErrEmpty
			}
		}
	}
	for _, p := range m.Places {
		if line.In(a, b, c, p.At) {
			return api.ErrEmpty
		}
	}
	return api.OK
}

// wantCost follows P12.2, for corners whose triangles have an area that an int can hold.
func wantCost(m api.Map, edge, n int) int {
	a, b, c, ok := cornerOf(m, edge, n)
	if !ok {
		return 0
	}
	product := func(x, y int) *big.Int { return new(big.Int).Mul(big.NewInt(int64(x)), big.NewInt(int64(y))) }
	area := product(b.X-a.X, c.Y-a.Y)
	area.Sub(area, product(b.Y-a.Y, c.X-a.X))
	return int(area.Sqrt(area.Abs(area)).Int64())
}

// wantApply follows P12.3.
func wantApply(m api.Map, edge, n int) (api.Map, api.Errno) {
	if errno := wantCan(m, edge, n); errno != api.OK {
		return api.Map{}, errno
	}
	m = sample.CloneMap(m)
	for i := range m.Edges {
		if m.Edges[i].Id == edge {
			m.Edges[i].Line = without(m.Edges[i].Line, n)
			break
		}
	}
	return m, api.OK
}

// wantAll follows P12.4.
func wantAll(m api.Map, district int) []api.Event {
	if district < 1 {
		return nil
	}
	var ids []int
	for _, e := range m.Edges {
		ids = append(ids, e.Id)
	}
	slices.Sort(ids)
	var events []api.Event
	for _, id := range slices.Compact(ids) {
		e, _ := firstEdge(m, id)
		if districtOf(m, e.Left) != district || districtOf(m, e.Right) != district {
			continue
		}
		for n := range e.Line {
			if wantCan(m, id, n) == api.OK {
				events = append(events, api.Event{Kind: 1, At: max(1, drop.Cost(m, id, n)), Id: id, N: n})
			}
		}
	}
	return events
}

func checkCan(t *testing.T, m api.Map, edge, n int, want api.Errno) {
	t.Helper()
	unchanged(t, m, func() {
		if got := drop.Can(m, edge, n); got != want {
			t.Fatalf("Can(%v, %d, %d) = %d, want %d", m, edge, n, got, want)
		}
	})
}

func checkCost(t *testing.T, m api.Map, edge, n, want int) {
	t.Helper()
	unchanged(t, m, func() {
		if got := drop.Cost(m, edge, n); got != want {
			t.Fatalf("Cost(%v, %d, %d) = %d, want %d", m, edge, n, got, want)
		}
	})
}

func checkApply(t *testing.T, m api.Map, edge, n int) {
	t.Helper()
	unchanged(t, m, func() {
		want, wantErrno := wantApply(m, edge, n)
		if got, errno := drop.Apply(m, edge, n); !sample.SameMap(got, want) || errno != wantErrno {
			t.Fatalf("Apply(%v, %d, %d) = %v, %d, want %v, %d", m, edge, n, got, errno, want, wantErrno)
		}
	})
}

func checkAll(t *testing.T, m api.Map, district int, want ...api.Event) {
	t.Helper()
	unchanged(t, m, func() {
		if got := drop.All(m, district); !slices.Equal(got, want) {
			t.Fatalf("All(%v, %d) = %v, want %v", m, district, got, want)
		}
	})
}

// event returns the event by which the point n of an edge goes.
func event(id, n, at int) api.Event {
	return api.Event{Kind: api.EvDrop, At: at, Id: id, N: n}
}

func TestExamples(t *testing.T) {
	m := example()
	if errno := base.Check(m); errno != api.OK {
		t.Fatal(errno)
	}
	checkCan(t, m, 13, 1, api.OK)
	checkCan(t, m, 13, 2, api.ErrEmpty)
	checkCan(t, m, 13, 3, api.ErrArg)
	checkCan(t, m, 11, 1, api.ErrBorder)
	checkCan(t, m, 14, 1, api.ErrNone)
	checkCost(t, m, 13, 1, 10)
	checkCost(t, m, 13, 0, 0)
	checkApply(t, m, 13, 1)
	got, errno := drop.Apply(m, 13, 1)
	if e, _ := firstEdge(got, 13); errno != api.OK || !slices.Equal(e.Line, pts(0, 0, 20, 14, 20, 40)) {
		t.Error(got, errno)
	}
	checkAll(t, m, 1, event(13, 1, 10))
	checkAll(t, m, 0)
}

func TestCanEdgeAndCorner(t *testing.T) { // P12.1, check 1
	m := example()
	for _, edge := range []int{least, -13, -1, 0, 1, 2, 10, 14, 21, most} {
		for _, n := range []int{least, 0, 1, 3, most} {
			checkCan(t, m, edge, n, api.ErrNone)
		}
	}
	for _, n := range []int{least, least + 1, -1, 0, 3, 4, 5, most - 1, most} {
		checkCan(t, m, 13, n, api.ErrArg)
		checkCan(t, m, 11, n, api.ErrArg)
	}
	for l := range 3 {
		for n := -1; n < 4; n++ {
			checkCan(t, border(pts(0, 0, 5, 0, 9, 9)[:l]...), 9, n, api.ErrArg)
		}
	}
	checkCan(t, border(pts(0, 0, 5, 0, 9, 9)...), 9, 1, api.OK)
	checkCan(t, api.Map{}, 0, 1, api.ErrNone)
	checkCan(t, api.Map{Edges: []api.Edge{}}, 0, 1, api.ErrNone)
	checkCan(t, api.Map{Edges: []api.Edge{{}}}, 0, 1, api.ErrArg)
	// Ids of edges need not be positive.
	for _, id := range []int{least, -1, 0, most} {
		m := border(pts(0, 0, 5, 0, 9, 9)...)
		m.Edges[0].Id = id
		checkCan(t, m, id, 1, api.OK)
	}
}

func TestCanFirstEdge(t *testing.T) { // P12.1, check 1
	bent, straight := pts(0, 0, 5, 0, 9, 9), pts(0, 50, 9, 50)
	second := api.Edge{Id: 9, Line: straight, Left: 1, Right: 2}
	checkCan(t, with(border(bent...), second), 9, 1, api.OK)
	second.Line = bent
	checkCan(t, with(border(straight...), second), 9, 1, api.ErrArg)
	// Only the first one is the edge itself: the segments of the second one are in its way.
	checkCan(t, with(border(bent...), second), 9, 1, api.ErrEmpty)
	second.Left, second.Line = 5, pts(0, 60, 7, 65, 9, 50)
	checkCan(t, with(border(bent...), second), 9, 1, api.OK)
	m := with(border(bent...), second)
	slices.Reverse(m.Edges)
	checkCan(t, m, 9, 1, api.ErrBorder)
}

func TestCanDistricts(t *testing.T) { // P12.1, check 1
	l := pts(0, 0, 5, 0, 9, 9)
	for _, c := range []struct {
		left, right int
		faces       []api.Face
		want        api.Errno
	}{
		{1, 2, []api.Face{{Id: 1, District: 3}, {Id: 2, District: 3}}, api.OK},
		{1, 2, []api.Face{{Id: 2, District: 16}, {Id: 1, District: 16}}, api.OK},
		{1, 2, []api.Face{{Id: 1, District: 3}, {Id: 2, District: 4}}, api.ErrBorder},
		{1, 2, []api.Face{{Id: 1, District: 4}, {Id: 2, District: 3}}, api.ErrBorder},
		{1, 2, []api.Face{{Id: 1, District: 3}}, api.ErrBorder},
		{1, 2, []api.Face{{Id: 2, District: 3}}, api.ErrBorder},
		{1, 2, nil, api.ErrBorder},
		{1, 0, []api.Face{{Id: 1, District: 3}, {Id: 2, District: 3}}, api.ErrBorder},
		{0, 2, []api.Face{{Id: 1, District: 3}, {Id: 2, District: 3}}, api.ErrBorder},
		{0, 0, []api.Face{{Id: 1, District: 3}}, api.ErrBorder},
		{1, 2, []api.Face{{Id: 1}, {Id: 2}}, api.ErrBorder},
		{1, 2, []api.Face{{Id: 1, District: 3}, {Id: 2}}, api.ErrBorder},
		{1, 2, []api.Face{{Id: 1}, {Id: 2, District: 3}}, api.ErrBorder},
		// In maps that are not right, all of these are districts.
		{1, 2, []api.Face{{Id: 1, District: -3}, {Id: 2, District: -3}}, api.OK},
		{1, 2, []api.Face{{Id: 1, District: most}, {Id: 2, District: most}}, api.OK},
		{1, 2, []api.Face{{Id: 1, District: 17}, {Id: 2, District: 17}}, api.OK},
		{1, 2, []api.Face{{Id: 1, District: -3}, {Id: 2, District: 3}}, api.ErrBorder},
		{1, 1, []api.Face{{Id: 1, District: 3}}, api.OK},
		{0, 0, []api.Face{{Id: 0, District: 3}}, api.OK},
		{-7, most, []api.Face{{Id: -7, District: 3}, {Id: most, District: 3}}, api.OK},
		// Of faces with the same Id the first one counts, even with the district 0.
		{1, 2, []api.Face{{Id: 1, District: 3}, {Id: 2, District: 3}, {Id: 1, District: 4}, {Id: 2, District: 5}}, api.OK},
		{1, 2, []api.Face{{Id: 1, District: 4}, {Id: 2, District: 3}, {Id: 1, District: 3}}, api.ErrBorder},
		{1, 2, []api.Face{{Id: 1}, {Id: 2, District: 3}, {Id: 1, District: 3}}, api.ErrBorder},
		{1, 2, []api.Face{{Id: 2}, {Id: 1}, {Id: 2, District: 3}, {Id: 1, District: 3}}, api.ErrBorder},
	} {
		m := api.Map{Edges: []api.Edge{{Id: 9, Line: l, Left: c.left, Right: c.right}}, Faces: c.faces}
		checkCan(t, m, 9, 1, c.want)
	}
}

// zigzag returns n points, of which each corner can go.
func zigzag(n int) []api.Point {
	l := make([]api.Point, n)
	for i := range l {
		l[i] = pt(3*i, i%2)
	}
	return l
}

func TestCanRest(t *testing.T) { // P12.1, check 2
	for name, c := range map[string]struct {
		l    []api.Point
		n    int
		want api.Errno
	}{
		"a and c are equal":           {pts(0, 0, 9, 0, 0, 0), 1, api.ErrLine},
		"equal with more points":      {pts(5, 5, 0, 0, 9, 0, 0, 0), 2, api.ErrLine},
		"equal neighbours elsewhere":  {pts(0, 0, 9, 0, 9, 9, 20, 20, 20, 20), 1, api.ErrLine},
		"b is equal to a":             {pts(0, 0, 0, 0, 9, 0), 1, api.OK},
		"b is equal to c":             {pts(0, 0, 9, 0, 9, 0), 1, api.OK},
		"a loop of two segments":      {pts(0, 0, 9, 0, 9, 9, 0, 0), 1, api.ErrLine},
		"a loop of three segments":    {pts(0, 0, 9, 0, 9, 9, 0, 9, 0, 0), 2, api.OK},
		"across its own segment":      {pts(0, 0, 10, 0, 10, 10, 5, 10, 5, -5), 2, api.ErrLine},
		"along its own segment":       {pts(0, 0, 10, 0, 12, 5, 5, 0), 2, api.ErrLine},
		"back on itself":              {pts(0, 0, 10, 0, 7, 5, 4, 0), 2, api.ErrLine},
		"no longer across it":         {pts(0, 0, 10, 0, 10, 4, 20, 4, 5, -4, 30, -4), 4, api.OK},
		"the most points":             {zigzag(41), 20, api.OK},
		"one more":                    {zigzag(42), 20, api.ErrLine},
		"a point that is not right":   {pts(0, 0, 9, 0, 9, 9, far+1, 0), 1, api.ErrLine},
		"a that is not right":         {pts(far+1, 0, 9, 0, 9, 9), 1, api.ErrLine},
		"c that is not right":         {pts(0, 0, 9, 0, 9, least), 1, api.ErrLine},
		"b alone is not right":        {pts(0, 0, far+1, 0, 9, 9), 1, api.OK},
		"b alone is far":              {pts(0, 0, most, least, 9, 9), 1, api.OK},
		"the greatest points":         {pts(-far, -far, far, -far, far, far), 1, api.OK},
		"a straight corner":           {pts(0, 0, 4, 4, 9, 9), 1, api.OK},
		"a corner beyond its segment": {pts(0, 0, 9, 9, 4, 4), 1, api.OK},
	} {
		m := border(c.l...)
		if want := wantCan(m, 9, c.n); want != c.want {
			t.Errorf("%s: the words say %d", name, want)
		}
		checkCan(t, m, 9, c.n, c.want)
	}
}

func TestCanSegments(t *testing.T) { // P12.1, check 3
	corner := pts(0, 0, 10, 10, 20, 0)
	for _, c := range []struct {
		other []api.Point
		want  api.Errno
	}{
		{pts(5, 2, 6, 3), api.ErrEmpty},                 // inside
		{pts(10, -5, 10, 5), api.ErrEmpty},              // from outside to inside
		{pts(0, 5, 20, 5), api.ErrEmpty},                // through both sides, with ends outside
		{pts(10, 10, 10, 20), api.ErrEmpty},             // from b on
		{pts(0, 20, 20, 0), api.ErrEmpty},               // through b and c
		{pts(5, 5, 0, 9), api.ErrEmpty},                 // from a side on
		{pts(10, 0, 10, -9), api.ErrEmpty},              // from between a and c on
		{pts(0, 0, 20, 0), api.ErrEmpty},                // from a to c
		{pts(-5, 0, 30, 0), api.ErrEmpty},               // beyond both
		{pts(0, 0, 1, 0), api.ErrEmpty},                 // from a towards c
		{pts(0, 0, 5, 5), api.ErrEmpty},                 // from a towards b
		{pts(0, 0, 9, 1), api.ErrEmpty},                 // from a to the inside
		{pts(10, 5, 10, 5), api.ErrEmpty},               // a point inside
		{pts(0, 0, 0, 9), api.OK},                       // from a on
		{pts(-9, 0, 0, 0), api.OK},                      // up to a
		{pts(0, 0, -5, -5), api.OK},                     // from a on, along the line of b
		{pts(-5, 5, 5, -5), api.OK},                     // through a
		{pts(20, 0, 30, 0), api.OK},                     // from c on
		{pts(15, -5, 25, 5), api.OK},                    // through c
		{pts(0, 0, 0, 0), api.OK},                       // a itself
		{pts(20, 0), api.OK},                            // no segment
		{pts(10, 5), api.OK},                            // none either
		{nil, api.OK},                                   // nor here
		{pts(0, 1, 9, 10), api.OK},                      // beside it
		{pts(0, 11, 20, 11), api.OK},                    // above it
		{pts(5, 2, far+1, 2), api.OK},                   // not right, which touches nothing
		{pts(0, 90, 90, 90, 9, 9, 9, 50), api.ErrEmpty}, // only the third segment
		{pts(0, 90, 90, 90, 0, 0, 5, 50, 9, 2), api.ErrEmpty},
		{pts(0, 90, 90, 90, 80, 0, 20, 0), api.OK},
	} {
		m := with(border(corner...), api.Edge{Id: 4, Line: c.other})
		checkCan(t, m, 9, 1, c.want)
		slices.Reverse(m.Edges)
		checkCan(t, m, 9, 1, c.want)
		m = with(border(corner...), api.Edge{Id: 5, Line: pts(0, 90, 90, 90)}, api.Edge{Id: 4, Line: line.Reverse(c.other)}, api.Edge{Id: 6})
		checkCan(t, m, 9, 1, c.want)
	}
}

func TestCanOwnSegments(t *testing.T) { // P12.1, check 3
	// The line goes around the triangle of its corner 2 and comes back into it.
	l := pts(-9, 0, 0, 0, 10, 10, 20, 0, 20, -9, 10, -9, 10, 5)
	checkCan(t, border(l...), 9, 2, api.ErrLine)
	l = pts(-9, 0, 0, 0, 10, 10, 20, 0, 20, 20, 10, 20, 10, 10)
	checkCan(t, border(l...), 9, 2, api.ErrEmpty)
	checkCan(t, border(line.Reverse(l)...), 9, 4, api.ErrEmpty)
	checkCan(t, border(l[:6]...), 9, 2, api.OK)
	// Those beside the corner begin at a and c, and count if they lead back into the triangle.
	checkCan(t, border(pts(5, 4, 0, 0, 10, 10, 20, 0)...), 9, 2, api.ErrEmpty)
	checkCan(t, border(pts(0, 0, 10, 10, 20, 0, 12, 7)...), 9, 1, api.ErrEmpty)
	checkCan(t, border(pts(0, 9, 0, 0, 10, 10, 20, 0, 20, 9)...), 9, 2, api.OK)
	// A closed line: a of the corner 1 is its last point, too.
	checkCan(t, border(pts(0, 0, 10, -5, 20, 0, 20, 20, 0, 0)...), 9, 1, api.OK)
	checkCan(t, border(pts(0, 0, 10, -5, 20, 0, 20, 20, 0, 0)...), 9, 2, api.OK)
	checkCan(t, border(pts(0, 0, 10, -5, 20, 0, 20, 20, 10, -1, 0, 0)...), 9, 1, api.ErrLine)
}

func TestCanPlaces(t *testing.T) { // P12.1, check 3
	for _, corner := range [][]api.Point{pts(0, 0, 10, 10, 20, 0), pts(20, 0, 10, 10, 0, 0)} {
		for _, c := range []struct {
			at   api.Point
			want api.Errno
		}{
			{pt(10, 5), api.ErrEmpty},
			{pt(0, 0), api.ErrEmpty}, // a and c, too
			{pt(10, 10), api.ErrEmpty},
			{pt(20, 0), api.ErrEmpty},
			{pt(5, 5), api.ErrEmpty},
			{pt(7, 0), api.ErrEmpty},
			{pt(7, -1), api.OK},
			{pt(5, 6), api.OK},
			{pt(-1, 0), api.OK},
			{pt(11, 10), api.OK},
			{pt(most, 0), api.OK},
			{pt(far+1, 5), api.OK},
		} {
			m := border(corner...)
			m.Places = []api.Place{{Id: 4, At: c.at}}
			checkCan(t, m, 9, 1, c.want)
			m.Places = []api.Place{{Id: 4, At: pt(50, 50), District: 3}, {Id: 4, At: c.at, District: 7}, {Id: 5, At: pt(60, 50)}}
			checkCan(t, m, 9, 1, c.want)
		}
	}
	// A straight corner: its triangle is a segment.
	m := border(pts(0, 0, 5, 5, 9, 9)...)
	m.Places = []api.Place{{At: pt(7, 7)}}
	checkCan(t, m, 9, 1, api.ErrEmpty)
	m.Places[0].At = pt(7, 8)
	checkCan(t, m, 9, 1, api.OK)
}

func TestCanIgnoresWays(t *testing.T) { // P12.1
	m := border(pts(0, 0, 10, 10, 20, 0)...)
	m.Ways = []api.Way{{Id: 9, Line: pts(0, 5, 20, 5), District: 3}, {Id: 7, Line: pts(10, 10, 10, 0), District: 3}}
	checkCan(t, m, 9, 1, api.OK)
	checkCan(t, m, 7, 1, api.ErrNone)
}

func TestCanOrder(t *testing.T) { // P12.1, R2
	// Everything is wrong at first, then one thing after the other is put right.
	m := border(pts(0, 0, 10, 10, 20, 0, 20, 0)...)
	m.Faces[1].District = 4
	m.Places = []api.Place{{At: pt(10, 5)}}
	checkCan(t, m, 8, 7, api.ErrNone)
	checkCan(t, m, 9, 7, api.ErrArg)
	checkCan(t, m, 9, 1, api.ErrBorder)
	m.Faces[1].District = 3
	checkCan(t, m, 9, 1, api.ErrLine)
	m.Edges[0].Line[3] = pt(30, 0)
	checkCan(t, m, 9, 1, api.ErrEmpty)
	m.Places = nil
	checkCan(t, m, 9, 1, api.OK)
}

func TestCost(t *testing.T) { // P12.2
	for _, c := range []struct {
		l       []api.Point
		n, want int
	}{
		{pts(0, 0, 10, 0, 10, 10), 1, 10},
		{pts(10, 10, 10, 0, 0, 0), 1, 10},
		{pts(0, 0, 0, 10, 10, 10), 1, 10},
		{pts(0, 0, 11, 0, 5, 9), 1, 9},
		{pts(0, 0, 11, 0, 5, 11), 1, 11},
		{pts(0, 0, 1, 0, 1, 1), 1, 1},
		{pts(0, 0, 3, 0, 1, 1), 1, 1},
		{pts(0, 0, 2, 0, 1, 2), 1, 2},
		{pts(0, 0, 5, 5, 9, 9), 1, 0},
		{pts(0, 0, 5, 5, 0, 0), 1, 0},
		{pts(5, 5, 5, 5, 5, 5), 1, 0},
		{pts(5, 5, 5, 5, 7, 0), 1, 0},
		{pts(100, 100, 107, 100, 100, 107), 1, 7},
		{pts(0, 0, 10, 12, 20, 14, 20, 40), 1, 10},
		{pts(0, 0, 10, 12, 20, 14, 20, 40), 2, 16},
		{pts(0, 0, 10, 12, 20, 14, 20, 40), 0, 0},
		{pts(0, 0, 10, 12, 20, 14, 20, 40), 3, 0},
		{pts(0, 0, 10, 12, 20, 14, 20, 40), -1, 0},
		{pts(0, 0, 10, 12, 20, 14, 20, 40), most, 0},
		{pts(0, 0, 10, 12, 20, 14, 20, 40), least, 0},
		{pts(0, 0, 9, 0), 1, 0},
		{nil, 0, 0},
		{pts(-far, -far, far, -far, far, far), 1, 2 * far},
		{pts(far, far, far, -far, -far, -far), 1, 2 * far},
		// Beyond the bounds of right points, and where the area wraps around: 2^62, 2^63, and 2^64 + 4.
		{pts(0, 0, 1<<31, 0, 0, 1<<31), 1, 1 << 31},
		{pts(0, 0, 0, 1<<31, 1<<31, 0), 1, 1 << 31},
		{pts(0, 0, 1<<32, 0, 0, 1<<31), 1, 0},
		{pts(0, 0, 0, 1<<32, 1<<31, 0), 1, 0},
		{pts(0, 0, 1<<32, 4, -1, 1<<32), 1, 2},
		{pts(0, 0, 3<<31, 0, 0, 1<<31), 1, 1 << 31},
		{pts(most, 0, least, 0, least, 4), 1, 2},
		{pts(0, 0, most, 0, most, 1), 1, 3037000499},
		{pts(0, 0, most, 0, most, -1), 1, 3037000499},
	} {
		m := border(c.l...)
		checkCost(t, m, 9, c.n, c.want)
		checkCost(t, m, 8, c.n, 0)
		// The errors of Can play no part.
		m.Faces = nil
		m.Places = []api.Place{{At: pt(1, 0)}}
		checkCost(t, with(m, api.Edge{Id: 9, Line: pts(0, 0, 50, 0, 0, 50, 8, 8)}), 9, c.n, c.want)
	}
	checkCost(t, api.Map{}, 0, 1, 0)
}

func TestApply(t *testing.T) { // P12.3
	l := pts(0, 0, 10, 12, 20, 14, 20, 40)
	m := border(l...)
	m.Ways = []api.Way{{Id: 5, Line: pts(0, 0, 3, 3, 4, 4), Level: 1, Class: "x", Name: "y", Stairs: true, Weight: 7, District: 8}}
	m.Places = []api.Place{{Id: 9, At: pt(90, 90), Class: "x", Name: "y", Weight: 7, District: 8}}
	m = with(m, api.Edge{Id: 9, Line: pts(50, 50, 60, 60, 70, 50)}, api.Edge{Id: 3, Line: pts(50, 70, 60, 70, 70, 75)})
	for n, want := range [][]api.Point{nil, pts(0, 0, 20, 14, 20, 40), pts(0, 0, 10, 12, 20, 40)} {
		checkApply(t, m, 9, n)
		got, errno := drop.Apply(m, 9, n)
		if n > 0 && (errno != api.OK || !slices.Equal(got.Edges[0].Line, want)) {
			t.Error(n, got, errno)
		}
	}
	// With each error the map is zero.
	m = example()
	for _, c := range []struct {
		edge, n int
		want    api.Errno
	}{{14, 1, api.ErrNone}, {13, 0, api.ErrArg}, {11, 1, api.ErrBorder}, {13, 2, api.ErrEmpty}} {
		if got, errno := drop.Apply(m, c.edge, c.n); errno != c.want || !reflect.DeepEqual(got, api.Map{}) {
			t.Errorf("Apply of %d and %d = %v, %d", c.edge, c.n, got, errno)
		}
	}
	if got, errno := drop.Apply(border(pts(0, 0, 9, 0, 0, 0)...), 9, 1); errno != api.ErrLine || !reflect.DeepEqual(got, api.Map{}) {
		t.Errorf("a line that becomes none: %v, %d", got, errno)
	}
	if got, errno := drop.Apply(api.Map{}, 0, 1); errno != api.ErrNone || !reflect.DeepEqual(got, api.Map{}) {
		t.Errorf("the zero map: %v, %d", got, errno)
	}
}

func TestAll(t *testing.T) { // P12.4
	l := zigzag(5)
	m := border(l...)
	checkAll(t, m, 3, event(9, 1, 2), event(9, 2, 2), event(9, 3, 2))
	for _, d := range []int{least, -3, -1, 0, 1, 2, 4, 9, most} {
		checkAll(t, m, d)
	}
	checkAll(t, api.Map{}, 0)
	checkAll(t, api.Map{}, 1)
	// Not even for a district of this number.
	for _, d := range []int{least, -3, 0} {
		m := border(l...)
		m.Faces = []api.Face{{Id: 1, District: d}, {Id: 2, District: d}}
		checkAll(t, m, d)
	}
	for _, d := range []int{1, 16, 17, most} {
		m := border(pts(0, 0, 9, 0, 9, 1)...)
		m.Faces = []api.Face{{Id: 1, District: d}, {Id: 2, District: d}}
		checkAll(t, m, d, event(9, 1, 3))
	}
	// A straight corner costs 0, and its event is at 1.
	checkAll(t, border(pts(0, 0, 5, 5, 9, 9)...), 3, event(9, 1, 1))
	checkAll(t, border(pts(0, 0, 1, 0, 1, 1)...), 3, event(9, 1, 1))
	// An At beyond all scales.
	checkAll(t, border(pts(-far, -far, far, -far, far, far)...), 3, event(9, 1, 2*far))
}

func TestAllOrder(t *testing.T) { // P12.4
	var m api.Map
	m.Faces = []api.Face{{Id: 1, District: 3}, {Id: 2, District: 3}, {Id: 3, District: 5}}
	// Each edge is above the one before it; their costs, and the numbers of their points, differ.
	for i, id := range []int{7, most, -2, 0, 5, 7, 1, 5, least} {
		l := pts(0, 90*i, 9*i+1, 90*i, 9*i+1, 90*i+9, 200, 90*i+9)
		m.Edges = append(m.Edges, api.Edge{Id: id, Line: l[:3+i%2], Left: 1, Right: 2})
	}
	m.Edges[6].Left = 3
	m.Edges[1].Right = 3
	checkAll(t, m, 3, event(least, 1, 25), event(-2, 1, 13), event(0, 1, 15), event(0, 2, 39), event(5, 1, 18), event(7, 1, 3))
	checkAll(t, m, 5)
	m.Edges[6].Right = 3
	checkAll(t, m, 5, event(1, 1, 22))
	// Only the first edge with an Id counts, also if it is of another district.
	m.Edges[0].Right = 3
	checkAll(t, m, 3, event(least, 1, 25), event(-2, 1, 13), event(0, 1, 15), event(0, 2, 39), event(5, 1, 18))
}

// bentTown draws a right map in which many corners of edges can go, and others cannot.
func bentTown(r *rand.Rand) api.Map {
	n := 2 + r.Intn(4)
	ids := r.Perm(50)[:2+r.Intn(4)]
	for i := range ids {
		ids[i]++
	}
	p := sample.RandomPartition(r, n, 60<<r.Intn(9), ids)
	m := sample.RandomMap(r, p, 1+r.Intn(2))
	m.Places = nil
	for i := range 80 {
		if len(m.Edges) == 0 {
			break
		}
		other := sample.CloneMap(m)
		e := &other.Edges[r.Intn(len(m.Edges))]
		switch corners := len(e.Line) - 2; {
		case i%8 > 0:
			bend(r, e)
		case corners > 0:
			settle(r, &other, e.Line[r.Intn(corners):][:3])
		}
		if base.Check(other) == api.OK {
			m = other
		}
	}
	return m
}

// bend adds a point to e, near the middle of a segment.
func bend(r *rand.Rand, e *api.Edge) {
	i := 1 + r.Intn(len(e.Line)-1)
	a, b := e.Line[i-1], e.Line[i]
	size := max(b.X-a.X, a.X-b.X, b.Y-a.Y, a.Y-b.Y)
	middle := pt((a.X+b.X)/2, (a.Y+b.Y)/2)
	e.Line = slices.Insert(e.Line, i, point.Add(middle, sample.RandomPoint(r, size)))
}

// settle adds a place to m, near a corner of an edge.
func settle(r *rand.Rand, m *api.Map, corner []api.Point) {
	box := point.Box(corner)
	at := pt(box.X0+r.Intn(box.X1-box.X0+1), box.Y0+r.Intn(box.Y1-box.Y0+1))
	id, _ := cover.At(m.Edges, at)
	m.Places = append(m.Places, api.Place{Id: 3000 + len(m.Places), At: at, Class: "tree", Weight: 1, District: districtOf(*m, id)})
}

// ofTowns visits random right maps.
func ofTowns(seed int64, n int, visit func(r *rand.Rand, m api.Map)) {
	r := rand.New(rand.NewSource(seed))
	for range n {
		visit(r, bentTown(r))
	}
}

// tangle draws a map that is often not right: some short edges close to each other, with faces of few districts.
func tangle(r *rand.Rand) api.Map {
	m := sample.AnyMap(r, 5)
	limit := 1 + r.Intn(12)
	for i := range m.Edges {
		e := &m.Edges[i]
		e.Left, e.Right = r.Intn(4), r.Intn(4)
		if r.Intn(4) > 0 {
			e.Line = sample.RandomList(r, r.Intn(7), limit)
		}
	}
	for i := range m.Faces {
		m.Faces[i].Id, m.Faces[i].District = r.Intn(4), r.Intn(3)
	}
	for i := range m.Places {
		if r.Intn(4) > 0 {
			m.Places[i].At = sample.RandomPoint(r, 2*limit)
		}
	}
	if r.Intn(2) == 0 {
		m.Places = nil
	}
	return m
}

// compare compares all functions with what the chapter says, for all corners of m.
func compare(t *testing.T, m api.Map, found map[api.Errno]int) {
	t.Helper()
	for _, e := range append(slices.Clone(m.Edges), api.Edge{Id: 77}) {
		for n := -1; n <= len(e.Line); n++ {
			want := wantCan(m, e.Id, n)
			checkCan(t, m, e.Id, n, want)
			checkApply(t, m, e.Id, n)
			a, b, c, _ := cornerOf(m, e.Id, n)
			if point.Right(a) && point.Right(b) && point.Right(c) {
				checkCost(t, m, e.Id, n, wantCost(m, e.Id, n))
			}
			found[want]++
		}
	}
	for d := -1; d < 4; d++ {
		checkAll(t, m, d, wantAll(m, d)...)
	}
}

func enough(t *testing.T, found map[api.Errno]int, n int, errors ...api.Errno) {
	t.Helper()
	for _, errno := range errors {
		if found[errno] < n {
			t.Errorf("only %d times %d", found[errno], errno)
		}
	}
}

func TestTowns(t *testing.T) { // P12.1 to P12.4
	found := map[api.Errno]int{}
	ofTowns(1, 150, func(_ *rand.Rand, m api.Map) { compare(t, m, found) })
	enough(t, found, 30, api.OK, api.ErrNone, api.ErrArg, api.ErrBorder, api.ErrLine, api.ErrEmpty)
}

func TestTangles(t *testing.T) { // P12.1 to P12.4
	found := map[api.Errno]int{}
	r := rand.New(rand.NewSource(2))
	for range 6000 {
		compare(t, tangle(r), found)
	}
	enough(t, found, 300, api.OK, api.ErrNone, api.ErrArg, api.ErrBorder, api.ErrLine, api.ErrEmpty)
}

// checkSameFaces compares the faces of points beside the triangle of a, b and c before and afterwards.
func checkSameFaces(t *testing.T, r *rand.Rand, before, after []api.Edge, a, b, c api.Point) {
	t.Helper()
	box := point.Box([]api.Point{a, b, c})
	for range 30 {
		p := pt(box.X0-3+r.Intn(box.X1-box.X0+7), box.Y0-3+r.Intn(box.Y1-box.Y0+7))
		if line.In(a, b, c, p) {
			continue
		}
		id, ok := cover.At(before, p)
		if got, gotOk := cover.At(after, p); got != id || ok != gotOk {
			t.Fatalf("%v, %v, %v: %v lies in %d, %v, and afterwards in %d, %v", a, b, c, p, id, ok, got, gotOk)
		}
	}
}

// checkAreas compares the areas of all faces, of which only those beside the edge e change, by a number whose root is cost.
func checkAreas(t *testing.T, before, after api.Map, e api.Edge, cost int) {
	t.Helper()
	for _, f := range before.Faces {
		change := cover.Area2(after.Edges, f.Id) - cover.Area2(before.Edges, f.Id)
		if f.Id != e.Left && f.Id != e.Right {
			if change != 0 {
				t.Fatalf("the area of the face %d changes by %d", f.Id, change)
			}
			continue
		}
		if change < 0 {
			change = -change
		}
		if cost*cost > change || change >= (cost+1)*(cost+1) {
			t.Fatalf("the area of the face %d changes by %d, but the cost is %d", f.Id, change, cost)
		}
	}
	left := cover.Area2(after.Edges, e.Left) - cover.Area2(before.Edges, e.Left)
	right := cover.Area2(after.Edges, e.Right) - cover.Area2(before.Edges, e.Right)
	if left+right != 0 {
		t.Fatalf("the areas of both sides change by %d and %d", left, right)
	}
}

func TestConsequences(t *testing.T) { // P12.5, P12.6
	events := 0
	ofTowns(3, 120, func(r *rand.Rand, m api.Map) {
		for _, d := range base.Districts(m) {
			for _, e := range drop.All(m, d) {
				other, errno := drop.Apply(m, e.Id, e.N)
				if check := base.Check(other); errno != api.OK || check != api.OK {
					t.Fatalf("Apply(%v, %d, %d): %d, then %d", m, e.Id, e.N, errno, check)
				}
				a, b, c, _ := cornerOf(m, e.Id, e.N)
				checkSameFaces(t, r, m.Edges, other.Edges, a, b, c)
				edge, _ := firstEdge(m, e.Id)
				checkAreas(t, m, other, edge, drop.Cost(m, e.Id, e.N))
				events++
			}
		}
	})
	if events < 500 {
		t.Errorf("only %d events", events)
	}
}

func TestManyOneAfterTheOther(t *testing.T) { // P12.5
	ofTowns(4, 80, func(r *rand.Rand, m api.Map) {
		for {
			var events []api.Event
			for _, d := range base.Districts(m) {
				events = append(events, drop.All(m, d)...)
			}
			if len(events) == 0 {
				break
			}
			e := events[r.Intn(len(events))]
			m, _ = drop.Apply(m, e.Id, e.N)
		}
		if errno := base.Check(m); errno != api.OK {
			t.Fatalf("%v: %d", m, errno)
		}
	})
}

func TestResultsAreNew(t *testing.T) { // R3
	m := example()
	m.Ways = []api.Way{{Id: 30, Line: pts(1, 2, 3, 4)}}
	// Lines of one array, which the result must not have in common either.
	l := pts(0, 0, 10, 12, 20, 14, 20, 40)
	m.Edges = append(m.Edges, api.Edge{Id: 31, Line: l[:1]}, api.Edge{Id: 32, Line: l[3:]})
	m.Edges[2].Line = l
	want, _ := drop.Apply(sample.CloneMap(m), 13, 1)
	got, errno := drop.Apply(m, 13, 1)
	sample.Scribble(m)
	if errno != api.OK || !sample.SameMap(got, want) {
		t.Errorf("it shares memory with the argument: %v, %d", got, errno)
	}
	for i := range got.Edges {
		sample.ScribbleLine(got.Edges[i].Line)
		for j := range got.Edges {
			if j != i && !slices.Equal(got.Edges[j].Line, want.Edges[j].Line) {
				t.Errorf("the Lines of the edges %d and %d share memory", i, j)
			}
		}
		copy(got.Edges[i].Line, want.Edges[i].Line)
	}
}

func TestNilAndEmpty(t *testing.T) { // R1
	m := border(pts(0, 0, 9, 0, 9, 9)...)
	full := changed(m, func(m *api.Map) { m.Ways, m.Places = []api.Way{}, []api.Place{} })
	checkCan(t, full, 9, 1, api.OK)
	checkAll(t, full, 3, event(9, 1, 9))
	got, _ := drop.Apply(m, 9, 1)
	if other, errno := drop.Apply(full, 9, 1); errno != api.OK || !sample.SameMap(got, other) {
		t.Error(got, other, errno)
	}
}

func TestAnyArguments(t *testing.T) { // P1, R3, R4
	r := rand.New(rand.NewSource(5))
	numbers := []int{least, -1, 0, 1, 2, 3, most}
	for range 1000 {
		m := sample.AnyMap(r, 6)
		unchanged(t, m, func() {
			for range 40 {
				edge, n := sample.AnyNumber(r), numbers[r.Intn(len(numbers))]
				can, cost := drop.Can(m, edge, n), drop.Cost(m, edge, n)
				_, errno := drop.Apply(m, edge, n)
				if can != errno || can != drop.Can(m, edge, n) || cost != drop.Cost(m, edge, n) || cost < 0 {
					t.Fatalf("%v, %d, %d: %d, %d, %d", m, edge, n, can, cost, errno)
				}
				if all := drop.All(m, edge); !slices.Equal(all, wantAll(m, edge)) {
					t.Fatalf("All(%v, %d) = %v", m, edge, all)
				}
			}
		})
	}
}

func TestLargeArguments(t *testing.T) { // P1, R5
	const n = 100000
	m := api.Map{Edges: make([]api.Edge, n), Faces: make([]api.Face, n), Places: make([]api.Place, n)}
	for i := range n {
		m.Edges[i] = api.Edge{Id: n - i, Line: pts(0, i, 1, i), Left: i, Right: n - 1 - i}
		m.Faces[i] = api.Face{Id: i, District: 1}
		m.Places[i] = api.Place{Id: i, At: pt(5, 5)}
	}
	m.Edges[n-1].Line = pts(50, 50, 51, 50, 51, 49)
	m.Edges[0].Line = make([]api.Point, n)
	want := []api.Event{event(1, 1, 1)}
	if all := drop.All(m, 1); !slices.Equal(all, want) || len(drop.All(m, 2)) > 0 {
		t.Errorf("All: %d events", len(all))
	}
	if errno := drop.Can(m, n, 1000); errno != api.ErrLine || drop.Cost(m, n, 1000) != 0 {
		t.Errorf("Can: %d", errno)
	}
	other, errno := drop.Apply(m, 1, 1)
	if errno != api.OK || !slices.Equal(other.Edges[n-1].Line, pts(50, 50, 51, 49)) || len(other.Places) != n {
		t.Errorf("Apply: %d", errno)
	}
}
