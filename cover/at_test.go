package cover_test

import (
	"math/big"
	"math/rand"
	"reflect"
	"slices"
	"testing"

	"hachure/api"
	"hachure/cover"
	"hachure/point"
	"hachure/sample"
)

const (
	// bound is the greatest numerator of bounded spots, and boundD their greatest D.
	bound  = 1 << 37
	boundD = 1 << 22
)

func spot(x, y, d int) api.Spot {
	return api.Spot{X: x, Y: y, D: d}
}

// trace returns a line through spots, each given by X, Y and D.
func trace(id, left, right int, n ...int) api.Trace {
	t := api.Trace{Id: id, Left: left, Right: right}
	for i := 0; i < len(n); i += 3 {
		t.Line = append(t.Line, spot(n[i], n[i+1], n[i+2]))
	}
	return t
}

// tracesOf returns edges as traces, made smaller by d.
func tracesOf(edges []api.Edge, d int) []api.Trace {
	l := make([]api.Trace, len(edges))
	for i, e := range edges {
		l[i] = api.Trace{Id: e.Id, Left: e.Left, Right: e.Right}
		for _, p := range e.Line {
			l[i].Line = append(l[i].Line, spot(p.X, p.Y, d))
		}
	}
	return l
}

// multiplied returns the same traces in other numbers.
func multiplied(r *rand.Rand, l []api.Trace, limit int) []api.Trace {
	m := slices.Clone(l)
	for i, t := range m {
		m[i].Line = nil
		for _, s := range t.Line {
			n := 1 + r.Intn(limit)
			m[i].Line = append(m[i].Line, spot(n*s.X, n*s.Y, n*s.D))
		}
	}
	return m
}

func cloneTraces(l []api.Trace) []api.Trace {
	m := slices.Clone(l)
	for i := range m {
		m[i].Line = slices.Clone(m[i].Line)
	}
	return m
}

// exactSpot is a spot in numbers without bounds.
type exactSpot struct{ x, y *big.Rat }

func exactly(s api.Spot) exactSpot {
	return exactSpot{big.NewRat(int64(s.X), int64(s.D)), big.NewRat(int64(s.Y), int64(s.D))}
}

func product(a, b, c, d *big.Rat) *big.Rat {
	return new(big.Rat).Mul(new(big.Rat).Sub(a, b), new(big.Rat).Sub(c, d))
}

func exactSide(a, b, p exactSpot) int {
	return product(b.x, a.x, p.y, a.y).Cmp(product(b.y, a.y, p.x, a.x))
}

// boundedNumbers is written out once more, so that other bounds are found.
func boundedNumbers(s api.Spot) bool {
	const n = 137438953472
	return s.D > 0 && s.D <= 4194304 && s.X <= n && s.Y <= n && s.X >= -n && s.Y >= -n
}

type rising struct {
	low, high exactSpot
	east      int
}

// beyond follows the words of the chapter.
func (first rising) beyond(second rising) bool {
	r := 0
	if second.low.y.Cmp(first.low.y) >= 0 {
		if r = exactSide(first.low, first.high, second.low); r == 0 {
			r = exactSide(first.low, first.high, second.high)
		}
	} else {
		if r = -exactSide(second.low, second.high, first.low); r == 0 {
			r = -exactSide(second.low, second.high, first.high)
		}
	}
	return r < 0
}

func onExactly(a, b, p exactSpot) bool {
	return exactSide(a, b, p) == 0 && p.x.Cmp(a.x)*p.x.Cmp(b.x) <= 0 && p.y.Cmp(a.y)*p.y.Cmp(b.y) <= 0
}

// wantAtTraces computes with fractions.
func wantAtTraces(l []api.Trace, p api.Point) (int, bool) {
	if !boundedNumbers(point.SpotOf(p)) {
		return 0, false
	}
	var candidates []rising
	q := exactly(point.SpotOf(p))
	for _, t := range l {
		for i, s := range t.Line {
			if !boundedNumbers(s) {
				return 0, false
			}
			if i == 0 {
				continue
			}
			a, b := exactly(t.Line[i-1]), exactly(s)
			if onExactly(a, b, q) {
				return 0, false
			}
			r := rising{a, b, t.Right}
			if a.y.Cmp(b.y) > 0 {
				r = rising{b, a, t.Left}
			}
			if r.low.y.Cmp(q.y) <= 0 && r.high.y.Cmp(q.y) > 0 && exactSide(r.low, r.high, q) < 0 {
				candidates = append(candidates, r)
			}
		}
	}
	if len(candidates) == 0 {
		return 0, true
	}
	chosen := candidates[0]
	for _, r := range candidates {
		if chosen.beyond(r) {
			chosen = r
		}
	}
	return chosen.east, true
}

func boundedTraces(l []api.Trace) bool {
	return !slices.ContainsFunc(l, func(t api.Trace) bool {
		return slices.ContainsFunc(t.Line, func(s api.Spot) bool { return !boundedNumbers(s) })
	})
}

func checkAt(t *testing.T, edges []api.Edge, p api.Point, face int, ok bool) {
	t.Helper()
	unchanged(t, edges, func() {
		if gotFace, gotOk := cover.At(edges, p); gotFace != face || gotOk != ok {
			t.Fatalf("At(%v, %v) = %d, %v, want %d, %v", edges, p, gotFace, gotOk, face, ok)
		}
	})
}

func checkAtTraces(t *testing.T, l []api.Trace, p api.Point, face int, ok bool) {
	t.Helper()
	before := cloneTraces(l)
	if gotFace, gotOk := cover.AtTraces(l, p); gotFace != face || gotOk != ok {
		t.Fatalf("AtTraces(%v, %v) = %d, %v, want %d, %v", l, p, gotFace, gotOk, face, ok)
	}
	if !reflect.DeepEqual(l, before) { // R3
		t.Fatalf("AtTraces changes %v into %v", before, l)
	}
}

// randomPointOf draws a point of an edge, one near it, one between two of them, one as high as one of them, or any one near the partition.
func randomPointOf(r *rand.Rand, p sample.Partition) api.Point {
	if len(p.Edges) == 0 {
		return sample.RandomPoint(r, far)
	}
	a, b := randomEnd(r, p.Edges), randomEnd(r, p.Edges)
	switch r.Intn(6) {
	case 0:
		return a
	case 1:
		return point.Add(a, sample.RandomPoint(r, 2))
	case 2:
		return pt((a.X+b.X)/2, (a.Y+b.Y)/2)
	case 3:
		return pt(b.X+r.Intn(9)-4, a.Y)
	case 4:
		i := r.Intn(12)
		return pt(a.X+(b.X-a.X)*i/11, a.Y+(b.Y-a.Y)*i/11)
	}
	return point.Add(a, sample.RandomPoint(r, 100))
}

// randomEnd draws a point of a line.
func randomEnd(r *rand.Rand, edges []api.Edge) api.Point {
	l := edges[r.Intn(len(edges))].Line
	return l[r.Intn(len(l))]
}

func TestAtExamples(t *testing.T) { // P7.3
	for _, c := range []struct {
		p    api.Point
		face int
		ok   bool
	}{
		{pt(8, 3), 5, true},
		{pt(3, 8), 6, true},
		{pt(5, 2), 0, false}, // on the edge 4
		{pt(11, 5), 0, true},
		{pt(5, 5), 0, false}, // on the edge 3

		{pt(0, 0), 0, false},   // a common end
		{pt(10, 10), 0, false}, // the other one
		{pt(10, 0), 0, false},  // a point of a line
		{pt(4, 1), 0, false},   // where a closed line begins
		{pt(5, 0), 0, false},   // on a level segment
		{pt(5, 10), 0, false},
		{pt(0, 5), 0, false}, // on an upright one
		{pt(10, 5), 0, false},
		{pt(5, 1), 0, false},
		{pt(-1, 0), 0, true}, // as high as a level segment, to its left
		{pt(11, 0), 0, true}, // and to its right
		{pt(-1, 10), 0, true},
		{pt(11, 10), 0, true},
		{pt(5, -1), 0, true},
		{pt(5, 11), 0, true},
		{pt(3, 1), 5, true}, // as high as the hole's lower side
		{pt(8, 1), 5, true},
		{pt(4, 3), 5, true}, // as high as its upper corner
		{pt(5, 3), 5, true},
		{pt(9, 3), 5, true},
		{pt(2, 3), 6, true},
		{pt(1, 9), 6, true},
		{pt(9, 1), 5, true},
		{pt(9, 8), 5, true},
		{pt(-bound, 5), 0, true},
		{pt(bound, 5), 0, true},
		{pt(bound, bound), 0, true},
		{pt(bound+1, 5), 0, false},
		{pt(-bound-1, 5), 0, false},
		{pt(5, bound+1), 0, false},
		{pt(5, -bound-1), 0, false},
		{pt(most, least), 0, false},
	} {
		checkAt(t, example(), c.p, c.face, c.ok)
		checkAtTraces(t, tracesOf(example(), 1), c.p, c.face, c.ok)
	}
}

func TestAtNothing(t *testing.T) { // P7.2, P7.3
	for _, p := range pts(0, 0, 5, -7, bound, -bound, -bound, bound) {
		checkAt(t, nil, p, 0, true)
		checkAtTraces(t, nil, p, 0, true)
		checkAt(t, []api.Edge{edge(1, 2, 3)}, p, 0, true)
		checkAt(t, []api.Edge{edge(1, 2, 3, p.X, p.Y)}, p, 0, true) // without a segment
	}
	for _, p := range pts(bound+1, 0, 0, bound+1, -bound-1, 0, 0, -bound-1, most, most, least, least) {
		checkAt(t, nil, p, 0, false)
		checkAtTraces(t, nil, p, 0, false)
	}
}

func TestAtWhatIsNotBounded(t *testing.T) { // P7.2
	low, high := spot(0, -9, 1), spot(0, 9, 1)
	inside, outside := pt(5, 0), pt(-5, 0)
	checkAtTraces(t, []api.Trace{{Line: []api.Spot{low, high}, Left: 3, Right: 4}}, inside, 4, true)
	wrong := []api.Spot{}
	for _, n := range []int{bound + 1, -bound - 1, most, least} {
		wrong = append(wrong, spot(n, 20, 1), spot(20, n, 1), spot(n, n, boundD))
	}
	for _, d := range []int{0, -1, -2, least, boundD + 1, most} {
		wrong = append(wrong, spot(20, 20, d), spot(0, 0, d))
	}
	for _, s := range wrong {
		for _, line := range [][]api.Spot{{s}, {s, low, high}, {low, s, high}, {low, high, s}} {
			for _, p := range []api.Point{inside, outside} {
				checkAtTraces(t, []api.Trace{{Line: line, Left: 3, Right: 4}}, p, 0, false)
				checkAtTraces(t, []api.Trace{{Line: []api.Spot{low, high}}, {Line: line}}, p, 0, false)
			}
		}
	}
	for _, s := range []api.Spot{spot(bound, 20, 1), spot(-bound, 20, 1), spot(20, bound, 1), spot(bound, -bound, boundD), spot(20, 20, boundD)} {
		line := []api.Spot{low, high, s}
		face, ok := wantAtTraces([]api.Trace{{Line: line, Left: 3, Right: 4}}, inside)
		checkAtTraces(t, []api.Trace{{Line: line, Left: 3, Right: 4}}, inside, face, ok)
		if !ok {
			t.Errorf("%v isn't bounded", s)
		}
	}
	for _, n := range []int{bound + 1, -bound - 1} {
		checkAt(t, []api.Edge{edge(1, 5, 0, 0, -9, 0, 9), edge(2, 5, 0, 20, 20, n, 20)}, inside, 0, false)
		checkAt(t, []api.Edge{edge(1, 5, 0, 0, -9, 0, 9), edge(2, 5, 0, 20, 20, 20, n)}, inside, 0, false)
		checkAt(t, []api.Edge{edge(1, 5, 0, 0, -9, 0, 9), edge(2, 5, 0, n, n)}, inside, 0, false)
	}
}

func TestOnTraces(t *testing.T) { // P7.2
	slanted := []api.Trace{trace(1, 2, 3, -1, -1, 2, 7, 3, 2)} // from -1/2, -1/2 to 7/2, 3/2
	for p, face := range map[api.Point]int{pt(0, 0): 0, pt(1, 0): 3, pt(2, 1): 0, pt(3, 1): 3, pt(-1, -1): 0, pt(0, -1): 0, pt(4, 2): 0} {
		checkAtTraces(t, slanted, p, face, true)
	}
	line := []api.Trace{trace(1, 2, 3, -1, -1, 2, 5, 5, 2)} // from -1/2, -1/2 to 5/2, 5/2
	for n := -3; n < 6; n++ {
		if 0 <= n && n <= 2 {
			checkAtTraces(t, line, pt(n, n), 0, false)
		} else {
			checkAtTraces(t, line, pt(n, n), 0, true) // on the way on from its ends
		}
	}
	level := []api.Trace{trace(1, 2, 3, -3, 4, 2, 9, 6, 3)} // from -3/2, 2 to 3, 2
	for n := -4; n < 6; n++ {
		face, ok := 0, n < -1 || n > 3
		checkAtTraces(t, level, pt(n, 2), face, ok)
	}
	checkAtTraces(t, []api.Trace{trace(1, 2, 3, 6, 4, 2, 9, 6, 3)}, pt(3, 2), 0, false) // both ends are p
	checkAtTraces(t, []api.Trace{trace(1, 2, 3, 6, 4, 2, 9, 6, 3)}, pt(4, 2), 0, true)
	checkAtTraces(t, []api.Trace{trace(1, 2, 3, 6, 4, 2)}, pt(3, 2), 0, true) // without a segment
	checkAtTraces(t, []api.Trace{trace(1, 2, 3), trace(2, 3, 4, 0, 0, 1, 0, 8, 3, 5, 5, 1)}, pt(0, 2), 0, false)
}

func TestHeights(t *testing.T) { // P7.2
	wall := []api.Trace{trace(1, 2, 3, 1, -1, 2, 1, 6, 3)} // from 1/2, -1/2 up to 1/3, 2
	for y, face := range map[int]int{-1: 0, 0: 3, 1: 3, 2: 0, 3: 0} {
		checkAtTraces(t, wall, pt(1, y), face, true)
		checkAtTraces(t, wall, pt(0, y), 0, true)
	}
	down := []api.Trace{trace(1, 2, 3, 1, 6, 3, 1, -4, 4)} // from 1/3, 2 down to 1/4, -1
	for y, face := range map[int]int{-2: 0, -1: 2, 0: 2, 1: 2, 2: 0, 3: 0} {
		checkAtTraces(t, down, pt(1, y), face, true)
	}
	// The lower end is as high as p, the upper one is not.
	bent := []api.Trace{trace(1, 2, 3, 0, -5, 1, 4, 0, 1, 0, 5, 1)}
	checkAtTraces(t, bent, pt(5, 0), 3, true)
	checkAtTraces(t, bent, pt(3, 0), 0, true)
	hook := []api.Trace{trace(1, 2, 3, 0, 5, 1, 4, 0, 1, 8, 5, 1)}
	checkAtTraces(t, hook, pt(9, 0), 3, true)
	checkAtTraces(t, hook, pt(3, 0), 0, true)
	checkAtTraces(t, hook, pt(4, 1), 2, true)
	roof := []api.Trace{trace(1, 2, 3, 0, -5, 1, 4, 0, 1, 8, -5, 1)}
	checkAtTraces(t, roof, pt(9, 0), 0, true)
	checkAtTraces(t, roof, pt(4, -1), 3, true)
}

func TestWhatLiesBeyond(t *testing.T) { // P7.2
	for name, c := range map[string]struct {
		first, second api.Trace // the second one lies beyond the first one
		p             api.Point
	}{
		"upright":                      {trace(1, 2, 3, 0, -5, 1, 0, 5, 1), trace(2, 3, 4, 1, -5, 1, 1, 5, 1), pt(9, 0)},
		"it begins higher":             {trace(1, 2, 3, 0, -5, 1, 0, 5, 1), trace(2, 3, 4, 1, -1, 1, 1, 5, 1), pt(9, 0)},
		"it begins lower":              {trace(1, 2, 3, 0, -1, 1, 0, 5, 1), trace(2, 3, 4, 1, -5, 1, 1, 5, 1), pt(9, 0)},
		"a common lower end":           {trace(1, 2, 3, 0, 0, 1, -5, 5, 1), trace(2, 3, 4, 0, 0, 1, 5, 5, 1), pt(9, 0)},
		"in other numbers":             {trace(1, 2, 3, 4, -3, 4, -5, 5, 1), trace(2, 3, 4, 8, -6, 8, 5, 5, 1), pt(9, 0)},
		"a common upper end":           {trace(1, 2, 3, -5, -5, 1, 0, 5, 1), trace(2, 3, 4, 5, -5, 1, 0, 5, 1), pt(9, 0)},
		"and it begins higher":         {trace(1, 2, 3, -5, -5, 1, 0, 5, 1), trace(2, 3, 4, 5, -1, 1, 0, 5, 1), pt(9, 0)},
		"and it begins lower":          {trace(1, 2, 3, -5, -1, 1, 0, 5, 1), trace(2, 3, 4, 5, -5, 1, 0, 5, 1), pt(9, 0)},
		"its lower end is on it":       {trace(1, 2, 3, 0, -5, 1, 0, 5, 1), trace(2, 3, 4, 0, -1, 1, 5, 5, 1), pt(9, 0)},
		"it has its lower end":         {trace(1, 2, 3, 0, -1, 1, -5, 5, 1), trace(2, 3, 4, 0, -5, 1, 0, 5, 1), pt(9, 0)},
		"it leads over it":             {trace(1, 2, 3, 0, -9, 1, 0, 9, 1), trace(2, 3, 4, 1, 0, 1, -50, 9, 1), pt(2, 0)},
		"it leads under it":            {trace(1, 2, 3, 6, 0, 1, 60, 9, 1), trace(2, 3, 4, 7, -9, 1, 7, 9, 1), pt(9, 0)},
		"between whole numbers":        {trace(1, 2, 3, 1, -9, 3, 1, 9, 3), trace(2, 3, 4, 1, -9, 2, 1, 9, 2), pt(1, 0)},
		"between whole numbers, lower": {trace(1, 2, 3, 1, -1, 3, 1, 9, 3), trace(2, 3, 4, 1, -1, 2, 1, 9, 2), pt(1, 0)},
	} {
		for _, l := range [][]api.Trace{{c.first, c.second}, {c.second, c.first}} {
			if face, ok := wantAtTraces(l, c.p); face != 4 || !ok {
				t.Fatalf("%s: the example is wrong: %d, %v", name, face, ok)
			}
			checkAtTraces(t, l, c.p, 4, true)
			down := cloneTraces(l)
			for i := range down {
				slices.Reverse(down[i].Line)
				down[i].Left, down[i].Right = down[i].Right, down[i].Left
			}
			checkAtTraces(t, down, c.p, 4, true)
		}
	}
}

func TestOrderOfCandidates(t *testing.T) { // P7.2
	// None of two equal segments lies beyond the other one: the first one stays.
	a, b := trace(1, 2, 3, 0, -5, 1, 0, 5, 1), trace(2, 3, 4, 0, -5, 1, 0, 5, 1)
	checkAtTraces(t, []api.Trace{a, b}, pt(9, 0), 3, true)
	checkAtTraces(t, []api.Trace{b, a}, pt(9, 0), 4, true)
	// Nor does one that goes on from the other one.
	c := trace(3, 5, 6, 0, -1, 1, 0, 9, 1)
	checkAtTraces(t, []api.Trace{a, c}, pt(9, 0), 3, true)
	checkAtTraces(t, []api.Trace{c, a}, pt(9, 0), 6, true)
	// Where segments cross, the one that begins higher counts as it lies at its lower end, also if it is not nearest to p.
	d, e := trace(4, 2, 3, 0, -5, 1, 0, 5, 1), trace(5, 6, 7, 2, -4, 1, -4, 2, 1)
	checkAtTraces(t, []api.Trace{d, e}, pt(9, 0), 7, true)
	checkAtTraces(t, []api.Trace{e, d}, pt(9, 0), 7, true)
	f := trace(6, 8, 9, -2, -5, 1, 5, 9, 1)
	for _, l := range [][]api.Trace{{d, e, f}, {e, f, d}, {f, d, e}, {f, e, d}, {e, d, f}, {d, f, e}} {
		face, ok := wantAtTraces(l, pt(9, 0))
		checkAtTraces(t, l, pt(9, 0), face, ok)
	}
}

func TestAtOfPartitions(t *testing.T) { // P7.3, P7.6
	in, on := 0, 0
	partitions(11, 600, func(r *rand.Rand, p sample.Partition) {
		for range 30 {
			q := randomPointOf(r, p)
			face, ok := p.FaceAt(q)
			checkAt(t, p.Edges, q, face, ok)
			if !ok {
				on++
			} else if face > 0 {
				in++
			}
		}
	})
	if in < 3000 || on < 3000 {
		t.Errorf("only %d points in faces, and %d on edges", in, on)
	}
}

func TestAtTracesOfPartitions(t *testing.T) { // P7.2
	in := 0
	partitions(12, 400, func(r *rand.Rand, p sample.Partition) {
		d := 1 + r.Intn(50)
		l := multiplied(r, tracesOf(p.Edges, d), 1+r.Intn(1<<r.Intn(15)))
		for range 20 {
			q := randomPointOf(r, p)
			q = pt(q.X/d, q.Y/d)
			face, ok := p.FaceAt(pt(q.X*d, q.Y*d))
			checkAtTraces(t, l, q, face, ok)
			if face > 0 {
				in++
			}
		}
	})
	if in < 500 {
		t.Errorf("only %d points in faces", in)
	}
}

// randomTraces draws traces that may meet, of spots that are mostly bounded.
func randomTraces(r *rand.Rand, limit, limitD int) []api.Trace {
	l := make([]api.Trace, r.Intn(6))
	for i := range l {
		l[i] = api.Trace{Id: i, Left: 10 + i, Right: 20 + i, Line: make([]api.Spot, r.Intn(5))}
		for j := range l[i].Line {
			l[i].Line[j] = spot(r.Intn(2*limit+1)-limit, r.Intn(2*limit+1)-limit, 1+r.Intn(limitD))
		}
	}
	return l
}

func TestAtOfManyTraces(t *testing.T) { // P7.2
	r := rand.New(rand.NewSource(13))
	faces, on, wrong := 0, 0, 0
	for range 40000 {
		limit, limitD := 1+bound>>r.Intn(38), 1+boundD>>r.Intn(23)
		if r.Intn(2) == 0 {
			limit, limitD = 1+r.Intn(6), 1+r.Intn(3)
		}
		l, p := randomTraces(r, limit, limitD), sample.RandomPoint(r, 1+limit/(1+r.Intn(limitD)))
		if r.Intn(20) == 0 {
			l = append(l, randomTraces(r, bound+bound/10, boundD+boundD/10)...)
		}
		face, ok := wantAtTraces(l, p)
		checkAtTraces(t, l, p, face, ok)
		switch {
		case face > 0:
			faces++
		case !ok && boundedTraces(l):
			on++
		case !ok:
			wrong++
		}
	}
	if faces < 5000 || on < 1000 || wrong < 50 {
		t.Errorf("only %d points in faces, %d on segments, and %d times what is not bounded", faces, on, wrong)
	}
}

func TestAtOfManyEdges(t *testing.T) { // P7.3
	r := rand.New(rand.NewSource(14))
	for range 5000 {
		edges := randomEdges(r, r.Intn(6))
		p := sample.RandomPoint(r, 1<<r.Intn(40))
		face, ok := wantAtTraces(tracesOf(edges, 1), p)
		checkAt(t, edges, p, face, ok)
	}
}
