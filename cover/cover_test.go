package cover_test

import (
	"math"
	"math/rand"
	"reflect"
	"slices"
	"testing"

	"hachure/api"
	"hachure/cover"
	"hachure/point"
	"hachure/sample"
)

const (
	least = math.MinInt
	most  = math.MaxInt
	far   = api.MaxCoord
)

var (
	pt          = sample.Pt
	pts         = sample.Pts
	around      = sample.Around
	wrongPoints = sample.WrongPoints
)

// extremes are numbers that are no Ids of anything, and numbers near the bounds of int.
var extremes = []int{0, -1, least, least + 1, most, most - 1}

func edge(id, left, right int, n ...int) api.Edge {
	return api.Edge{Id: id, Line: pts(n...), Left: left, Right: right}
}

func faces(ids ...int) []api.Face {
	l := make([]api.Face, len(ids))
	for i, id := range ids {
		l[i].Id = id
	}
	return l
}

// example returns the edges of the chapter's examples: a square, parted by a diagonal, with a hole in one half.
func example() []api.Edge {
	return []api.Edge{
		edge(1, 5, 0, 0, 0, 10, 0, 10, 10),
		edge(2, 6, 0, 10, 10, 0, 10, 0, 0),
		edge(3, 6, 5, 0, 0, 10, 10),
		edge(4, 7, 5, 4, 1, 6, 1, 6, 3, 4, 1),
	}
}

// triangle returns a small closed line around a face, and its place in a row of others.
func triangle(id, face, i int) api.Edge {
	x, y := 10*(i%100), 10*(i/100)
	return edge(id, face, 0, x, y, x+2, y, x, y+2, x, y)
}

// row returns n triangles around different faces, and these faces.
func row(n int) ([]api.Edge, []api.Face) {
	edges, l := make([]api.Edge, n), make([]api.Face, n)
	for i := range n {
		edges[i], l[i] = triangle(i+1, i+1, i), api.Face{Id: i + 1}
	}
	return edges, l
}

// cloneEdges returns edges in memory of their own.
func cloneEdges(edges []api.Edge) []api.Edge {
	l := slices.Clone(edges)
	for i := range l {
		l[i].Line = slices.Clone(l[i].Line)
	}
	return l
}

// reversed returns the same edge in the other direction.
func reversed(e api.Edge) api.Edge {
	l := slices.Clone(e.Line)
	slices.Reverse(l)
	return api.Edge{Id: e.Id, Line: l, Left: e.Right, Right: e.Left}
}

// disordered returns edges in another order, some of them in the other direction.
func disordered(r *rand.Rand, edges []api.Edge) []api.Edge {
	l := make([]api.Edge, len(edges))
	for i, j := range r.Perm(len(edges)) {
		l[i] = edges[j]
		if r.Intn(2) == 0 {
			l[i] = reversed(l[i])
		}
	}
	return l
}

// randomPartition draws up to 81 cells with up to 80 faces.
func randomPartition(r *rand.Rand) sample.Partition {
	ids := r.Perm(1000)[:1+r.Intn(1+r.Intn(80))]
	for i := range ids {
		ids[i]++
	}
	return sample.RandomPartition(r, 1+r.Intn(9), far>>r.Intn(9), ids)
}

// partitions visits random right partitions.
func partitions(seed int64, n int, visit func(r *rand.Rand, p sample.Partition)) {
	r := rand.New(rand.NewSource(seed))
	for range n {
		visit(r, randomPartition(r))
	}
}

// randomEdges draws edges of any kind: short and long ones, with the same Ids and faces, with points that are right or not.
func randomEdges(r *rand.Rand, n int) []api.Edge {
	limits := []int{1, 3, 10, far, far + 1, 1 << 37, 1<<37 + 1, 1 << 40, 1 << 61}
	limit := limits[r.Intn(len(limits))]
	edges := make([]api.Edge, n)
	for i := range edges {
		edges[i] = api.Edge{Id: r.Intn(5), Line: sample.RandomList(r, r.Intn(6), limit), Left: r.Intn(4), Right: r.Intn(4)}
		if r.Intn(9) == 0 {
			edges[i].Id, edges[i].Left = extremes[r.Intn(len(extremes))], extremes[r.Intn(len(extremes))]
		}
	}
	return edges
}

// unchanged runs a call, and then compares edges with what they were before, R3.
func unchanged(t *testing.T, edges []api.Edge, call func()) {
	t.Helper()
	before := cloneEdges(edges)
	call()
	if !reflect.DeepEqual(edges, before) {
		t.Fatalf("%v have become %v", before, edges)
	}
}

func checkArea2(t *testing.T, edges []api.Edge, face, want int) {
	t.Helper()
	unchanged(t, edges, func() {
		if got := cover.Area2(edges, face); got != want {
			t.Fatalf("Area2(%v, %d) = %d, want %d", edges, face, got, want)
		}
	})
}

func checkBorders(t *testing.T, edges []api.Edge, a, b int, want ...int) {
	t.Helper()
	unchanged(t, edges, func() {
		if got := cover.Borders(edges, a, b); !slices.Equal(got, want) {
			t.Fatalf("Borders(%v, %d, %d) = %v, want %v", edges, a, b, got, want)
		}
	})
}

func checkBeside(t *testing.T, edges []api.Edge, face int, want ...int) {
	t.Helper()
	unchanged(t, edges, func() {
		if got := cover.Beside(edges, face); !slices.Equal(got, want) {
			t.Fatalf("Beside(%v, %d) = %v, want %v", edges, face, got, want)
		}
	})
}

func TestArea2Examples(t *testing.T) { // P7.4
	checkArea2(t, example(), 5, 96)
	checkArea2(t, example(), 6, 100)
	checkArea2(t, example(), 7, 4)
	checkArea2(t, example(), 0, -200)
	checkArea2(t, example(), 8, 0)
	checkArea2(t, nil, 0, 0)
	checkArea2(t, []api.Edge{}, 5, 0)
	open := []api.Edge{edge(1, 3, 4, 1, 0, 0, 1), edge(2, 4, 3, 2, 0, 0, 2), edge(2, 3, 3, 5, 0, 0, 5)}
	checkArea2(t, open, 3, 1-4) // what has the face on both sides adds nothing
	checkArea2(t, open, 4, 4-1)
	checkArea2(t, []api.Edge{edge(1, 3, 4), edge(2, 3, 4, 7, 7)}, 3, 0)
	checkArea2(t, []api.Edge{edge(1, least, most, 0, 5, -5, 0, -5, -5)}, least, 50)
	checkArea2(t, []api.Edge{edge(1, least, most, 0, 5, -5, 0, -5, -5)}, most, -50)
}

func TestArea2WrapsAround(t *testing.T) { // P7.4, R5
	large := []api.Edge{edge(1, 1, 2, most, 0, 0, most, least, least), edge(2, 2, 1, least, 5, 3, least)}
	first := point.Cross(pt(most, 0), pt(0, most)) + point.Cross(pt(0, most), pt(least, least))
	second := point.Cross(pt(least, 5), pt(3, least))
	checkArea2(t, large, 1, first-second)
	checkArea2(t, large, 2, second-first)
	checkArea2(t, []api.Edge{edge(1, 1, 2, 1<<32, 0, 0, 1<<31)}, 1, least)
	checkArea2(t, []api.Edge{edge(1, 2, 1, 1<<32, 0, 0, 1<<31)}, 1, least)
	checkArea2(t, []api.Edge{edge(1, 2, 1, 1<<32, 0, 0, 1<<32)}, 1, 0)
}

func TestBordersExamples(t *testing.T) { // P7.5
	checkBorders(t, example(), 5, 6, 3)
	checkBorders(t, example(), 6, 5, 3)
	checkBorders(t, example(), 0, 5, 1)
	checkBorders(t, example(), 0, 6, 2)
	checkBorders(t, example(), 5, 7, 4)
	checkBorders(t, example(), 6, 7)
	checkBorders(t, example(), 0, 7)
	checkBorders(t, example(), 5, 5)
	checkBorders(t, example(), 0, 0)
	checkBorders(t, example(), 8, 9)
	checkBorders(t, nil, 0, 5)
	l := []api.Edge{edge(9, 1, 2), edge(-3, 2, 1), edge(4, 1, 3), edge(9, 2, 1), edge(6, 1, 1), edge(most, 1, 2), edge(least, 2, 1), edge(0, 1, 2), edge(5, 2, 2), edge(6, 1, 1)}
	checkBorders(t, l, 1, 2, least, -3, 0, 9, most)
	checkBorders(t, l, 2, 1, least, -3, 0, 9, most)
	checkBorders(t, l, 1, 1, 6) // one side is 1, and the other one as well
	checkBorders(t, l, 2, 2, 5)
	checkBorders(t, l, 3, 3)
	checkBorders(t, []api.Edge{edge(1, least, most)}, most, least, 1)
}

func TestBesideExamples(t *testing.T) { // P7.5
	checkBeside(t, example(), 5, 6, 7)
	checkBeside(t, example(), 6, 5)
	checkBeside(t, example(), 7, 5)
	checkBeside(t, example(), 0, 5, 6)
	checkBeside(t, example(), 8)
	checkBeside(t, nil, 0)
	l := []api.Edge{edge(1, 3, 9), edge(2, 2, 3), edge(3, 3, 0), edge(4, 3, 3), edge(5, 9, 3), edge(6, most, 3), edge(7, 3, least), edge(8, 3, -1), edge(9, 2, 4), edge(1, 0, 0), edge(2, 0, 9)}
	checkBeside(t, l, 3, least, -1, 2, 9, most)
	checkBeside(t, l, 0, 3, 9)
	checkBeside(t, l, 9, 3)
	checkBeside(t, l, 4, 2)
	checkBeside(t, l, most, 3)
	checkBeside(t, l, -1, 3)
}

func TestResultsAreNew(t *testing.T) { // R3
	l := []api.Edge{edge(1, 1, 2), edge(2, 2, 1), edge(3, 3, 1)}
	for _, call := range []func() []int{
		func() []int { return cover.Borders(l, 1, 2) },
		func() []int { return cover.Beside(l, 1) },
	} {
		first := call()
		want := slices.Clone(first)
		clear(first[:cap(first)])
		if got := call(); !slices.Equal(got, want) || len(want) != 2 {
			t.Errorf("%v, then %v", want, got)
		}
	}
}

// wantBorders looks for each Id anew.
func wantBorders(edges []api.Edge, a, b int) []int {
	var ids []int
	for _, e := range edges {
		if [2]int{e.Left, e.Right} == [2]int{a, b} || [2]int{e.Right, e.Left} == [2]int{a, b} {
			if !slices.Contains(ids, e.Id) {
				ids = append(ids, e.Id)
			}
		}
	}
	slices.Sort(ids)
	return ids
}

// wantBeside asks for each number whether the faces have a border.
func wantBeside(edges []api.Edge, face int) []int {
	var l []int
	for _, e := range edges {
		for _, f := range []int{e.Left, e.Right} {
			if f != 0 && f != face && len(wantBorders(edges, f, face)) > 0 && !slices.Contains(l, f) {
				l = append(l, f)
			}
		}
	}
	slices.Sort(l)
	return l
}

func TestBordersAndBesideOfManyEdges(t *testing.T) { // P7.5
	r := rand.New(rand.NewSource(1))
	for range 2000 {
		edges := randomEdges(r, r.Intn(12))
		a, b := r.Intn(5)-1, r.Intn(5)-1
		checkBorders(t, edges, a, b, wantBorders(edges, a, b)...)
		checkBeside(t, edges, a, wantBeside(edges, a)...)
	}
}

func TestAreasAreThoseOfFaces(t *testing.T) { // P7.4, P7.7
	partitions(2, 300, func(r *rand.Rand, p sample.Partition) {
		sum := 0
		for _, f := range p.Faces {
			area := p.Area2(f.Id)
			if area <= 0 {
				t.Fatalf("the face %d of %v is empty", f.Id, p)
			}
			checkArea2(t, p.Edges, f.Id, area)
			sum += area
		}
		checkArea2(t, p.Edges, 0, -sum)
	})
}

func TestBesideIsSymmetric(t *testing.T) { // P7.7
	pairs := 0
	partitions(3, 200, func(r *rand.Rand, p sample.Partition) {
		for _, f := range p.Faces {
			for _, g := range cover.Beside(p.Edges, f.Id) {
				if !slices.Contains(cover.Beside(p.Edges, g), f.Id) {
					t.Fatalf("%d is beside %d, and not the other way round: %v", g, f.Id, p)
				}
				pairs++
			}
		}
	})
	if pairs < 500 {
		t.Errorf("only %d pairs", pairs)
	}
}

func TestOrderAndDirections(t *testing.T) { // P7.7
	partitions(4, 300, func(r *rand.Rand, p sample.Partition) {
		other := disordered(r, p.Edges)
		checkCheck(t, other, p.Faces, api.OK)
		for range 20 {
			q := randomPointOf(r, p)
			face, ok := cover.At(p.Edges, q)
			checkAt(t, other, q, face, ok)
		}
		for _, f := range append(faces(0), p.Faces...) {
			checkArea2(t, other, f.Id, cover.Area2(p.Edges, f.Id))
			checkBeside(t, other, f.Id, cover.Beside(p.Edges, f.Id)...)
			g := r.Intn(9)
			checkBorders(t, other, f.Id, g, cover.Borders(p.Edges, f.Id, g)...)
		}
	})
}

func TestFarAway(t *testing.T) { // P7.6
	partitions(5, 100, func(r *rand.Rand, p sample.Partition) {
		for _, q := range slices.Concat(pts(far+1, 0, 0, far+1, -far-1, 3, 5, -far-1), sample.RandomList(r, 5, 1<<37)) {
			if !point.Right(q) {
				checkAt(t, p.Edges, q, 0, true)
			}
		}
	})
}

// crossings returns how many edges the segment from a to b meets, and the side of the last one, where it is left and entered; false if it is met elsewhere than in one point between its points.
func crossings(edges []api.Edge, a, b api.Point) (n, left, entered int, clean bool) {
	clean = true
	for _, e := range edges {
		meets := 0
		for i := range len(e.Line) - 1 {
			c, d := e.Line[i], e.Line[i+1]
			meets += point.Meet(a, b, c, d)
			clean = clean && !point.On(a, b, c) && !point.On(a, b, d)
			if point.Meet(a, b, c, d) == 1 {
				left, entered = e.Left, e.Right
				if point.Side(c, d, a) < 0 {
					left, entered = e.Right, e.Left
				}
			}
		}
		if meets > 0 {
			n++
		}
		clean = clean && meets <= 1
	}
	return n, left, entered, clean
}

func TestWaysBetweenPoints(t *testing.T) { // P7.6
	within, across := 0, 0
	partitions(6, 500, func(r *rand.Rand, p sample.Partition) {
		for range 40 {
			a := randomPointOf(r, p)
			b := point.Add(a, sample.RandomPoint(r, 1+r.Intn(40)))
			faceA, okA := cover.At(p.Edges, a)
			faceB, okB := cover.At(p.Edges, b)
			if !okA || !okB {
				continue
			}
			switch n, left, entered, clean := crossings(p.Edges, a, b); {
			case n == 0 && faceA == faceB:
				within++
			case n == 1 && clean && faceA == left && faceB == entered:
				across++
			case n == 0 || n == 1 && clean:
				t.Fatalf("%v: from %d at %v to %d at %v over %d edges, from %d to %d", p, faceA, a, faceB, b, n, left, entered)
			}
		}
	})
	if within < 1000 || across < 1000 {
		t.Errorf("only %d ways within a face, and %d across an edge", within, across)
	}
}

func TestAnyArguments(t *testing.T) { // P1
	r := rand.New(rand.NewSource(7))
	for range 20000 {
		edges := randomEdges(r, r.Intn(6))
		l := faces(r.Perm(5)[:r.Intn(5)]...)
		a, b := extremes[r.Intn(len(extremes))], r.Intn(4)
		cover.Check(edges, l)
		cover.At(edges, sample.RandomPoint(r, 1<<r.Intn(62)))
		cover.At(edges, pt(a, b))
		cover.Area2(edges, a)
		cover.Borders(edges, a, b)
		cover.Beside(edges, a)
	}
}

func TestLargeArguments(t *testing.T) { // P1, R5
	edges, l := row(100000)
	checkCheck(t, edges, l, api.ErrMany)
	checkAt(t, edges, pt(501, 101), 0, false)
	checkAt(t, edges, pt(502, 101), 0, true)
	if face, ok := cover.At([]api.Edge{{Id: 1, Line: make([]api.Point, 1000000), Left: 2}}, pt(3, 3)); face != 0 || !ok {
		t.Errorf("At a line of one point: %d, %v", face, ok)
	}
	checkArea2(t, edges, 5, 4)
	checkArea2(t, edges, 0, -400000)
	checkBorders(t, edges, 0, 100000, 100000)
	if got := cover.Beside(edges, 0); len(got) != 100000 || got[99999] != 100000 {
		t.Errorf("%d faces beside the outside", len(got))
	}
}
