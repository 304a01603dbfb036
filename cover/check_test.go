package cover_test

import (
	"math"
	"math/rand"
	"reflect"
	"slices"
	"testing"

	"hachure/api"
	"hachure/cover"
	"hachure/line"
	"hachure/point"
	"hachure/sample"
)

func checkCheck(t *testing.T, edges []api.Edge, l []api.Face, want api.Errno) {
	t.Helper()
	before := slices.Clone(l)
	unchanged(t, edges, func() {
		if got := cover.Check(edges, l); got != want {
			t.Fatalf("Check(%v, %v) = %v, want %v", edges, l, got, want)
		}
	})
	if !reflect.DeepEqual(l, before) { // R3
		t.Fatalf("Check changes %v into %v", before, l)
	}
}

// with returns the example with e in place of the edge with its Id, or at the end.
func with(edges ...api.Edge) []api.Edge {
	l := example()
	for _, e := range edges {
		if i := slices.IndexFunc(l, func(f api.Edge) bool { return f.Id == e.Id }); i >= 0 {
			l[i] = e
		} else {
			l = append(l, e)
		}
	}
	return l
}

// wantBranch is a direction from a point, as an angle from straight down on.
type wantBranch struct {
	angle       float64
	left, right int
}

// branchesAt looks at all segments for those that begin or end at p.
func branchesAt(edges []api.Edge, p api.Point) []wantBranch {
	var l []wantBranch
	add := func(q api.Point, left, right int) {
		// Math turns the other way and from the right on: this turns it onto straight down.
		angle := math.Atan2(float64(q.X-p.X), float64(p.Y-q.Y))
		if angle < 0 {
			angle += 2 * math.Pi
		}
		l = append(l, wantBranch{angle, left, right})
	}
	for _, e := range edges {
		for i := 1; i < len(e.Line); i++ {
			if e.Line[i-1] == p {
				add(e.Line[i], e.Left, e.Right)
			}
			if e.Line[i] == p {
				add(e.Line[i-1], e.Right, e.Left)
			}
		}
	}
	slices.SortFunc(l, func(a, b wantBranch) int {
		if a.angle < b.angle {
			return -1
		}
		return 1
	})
	return l
}

func lineEnds(e api.Edge) []api.Point {
	return []api.Point{e.Line[0], e.Line[len(e.Line)-1]}
}

func fit(edges []api.Edge) bool {
	for _, e := range edges {
		for _, p := range lineEnds(e) {
			l := branchesAt(edges, p)
			for i := range l {
				if l[i].left != l[(i+1)%len(l)].right {
					return false
				}
			}
		}
	}
	return true
}

// sets numbers the connected sets, by giving two edges with a common end the lower number until none changes.
func sets(edges []api.Edge) []int {
	number := make([]int, len(edges))
	for i := range number {
		number[i] = i
	}
	for changed := true; changed; {
		changed = false
		for i, e := range edges {
			for j, f := range edges {
				common := slices.ContainsFunc(lineEnds(e), func(p api.Point) bool { return slices.Contains(lineEnds(f), p) })
				if common && number[i] < number[j] {
					number[j], changed = number[i], true
				}
			}
		}
	}
	return number
}

func setsFit(edges []api.Edge) bool {
	number := sets(edges)
	for n := range edges {
		var points []api.Point
		var others []api.Edge
		for i, e := range edges {
			if number[i] == n {
				points = append(points, e.Line...)
			} else {
				others = append(others, e)
			}
		}
		if len(points) == 0 {
			continue
		}
		p := slices.MinFunc(points, func(a, b api.Point) int {
			if a.X != b.X {
				return a.X - b.X
			}
			return a.Y - b.Y
		})
		l := branchesAt(edges, p)
		if face, _ := wantAtTraces(tracesOf(others, 1), p); face != l[len(l)-1].left {
			return false
		}
	}
	return true
}

// wantCheck follows the words of the chapter.
func wantCheck(edges []api.Edge, l []api.Face) api.Errno {
	if len(edges) > 200 || len(l) > 80 {
		return api.ErrMany
	}
	hasFace := func(faces []api.Face, id int) bool {
		return slices.ContainsFunc(faces, func(f api.Face) bool { return f.Id == id })
	}
	for i, f := range l {
		if f.Id < 1 {
			return api.ErrArg
		}
		if hasFace(l[:i], f.Id) {
			return api.ErrTwice
		}
	}
	for i, e := range edges {
		if e.Id < 1 {
			return api.ErrArg
		}
		if slices.ContainsFunc(edges[:i], func(f api.Edge) bool { return f.Id == e.Id }) {
			return api.ErrTwice
		}
		if errno := line.Check(e.Line); errno != api.OK {
			return errno
		}
		if e.Left == e.Right {
			return api.ErrFace
		}
		if e.Left != 0 && !hasFace(l, e.Left) || e.Right != 0 && !hasFace(l, e.Right) {
			return api.ErrNone
		}
	}
	for i, e := range edges {
		for j, f := range edges {
			if i != j && line.Cross(e.Line, f.Line) {
				return api.ErrMeet
			}
		}
	}
	if !fit(edges) {
		return api.ErrFace
	}
	if !setsFit(edges) {
		return api.ErrInside
	}
	for _, f := range l {
		if !slices.ContainsFunc(edges, func(e api.Edge) bool { return e.Left == f.Id || e.Right == f.Id }) {
			return api.ErrNone
		}
	}
	return api.OK
}

func TestCheckExamples(t *testing.T) { // P7.1
	checkCheck(t, example(), faces(5, 6, 7), api.OK)
	checkCheck(t, example(), faces(7, 5, 6), api.OK)
	checkCheck(t, example(), faces(5, 6), api.ErrNone)
	checkCheck(t, example(), faces(5, 6, 7, 8), api.ErrNone)
	checkCheck(t, with(edge(4, 7, 6, 4, 1, 6, 1, 6, 3, 4, 1)), faces(5, 6, 7), api.ErrInside)
	checkCheck(t, with(edge(2, 5, 0, 10, 10, 0, 10, 0, 0)), faces(5, 6, 7), api.ErrFace)
	checkCheck(t, nil, nil, api.OK)
	checkCheck(t, []api.Edge{}, []api.Face{}, api.OK)
	checkCheck(t, nil, faces(1), api.ErrNone)
	checkCheck(t, example(), nil, api.ErrNone)
}

func TestCheckMany(t *testing.T) { // P7.1, check 1
	rows := func(edges, of int) []api.Edge {
		l := make([]api.Edge, edges)
		for i := range l {
			l[i] = triangle(i+1, 1+i%of, i)
		}
		return l
	}
	_, eighty := row(80)
	checkCheck(t, rows(200, 80), eighty, api.OK)
	checkCheck(t, rows(201, 80), eighty, api.ErrMany)
	checkCheck(t, rows(199, 80), eighty, api.OK)
	edges, l := row(81)
	checkCheck(t, edges, l, api.ErrMany)
	checkCheck(t, edges[:80], l[:80], api.OK)
	checkCheck(t, edges[:80], l, api.ErrMany)
	checkCheck(t, nil, l, api.ErrMany)
	checkCheck(t, nil, make([]api.Face, 80), api.ErrArg)
	checkCheck(t, nil, make([]api.Face, 81), api.ErrMany)
	checkCheck(t, make([]api.Edge, 200), nil, api.ErrArg)
	checkCheck(t, make([]api.Edge, 201), nil, api.ErrMany)
	checkCheck(t, make([]api.Edge, 201), make([]api.Face, 3), api.ErrMany)
	checkCheck(t, make([]api.Edge, 3), make([]api.Face, 81), api.ErrMany)
}

func TestCheckFaces(t *testing.T) { // P7.1, check 2
	for _, id := range extremes {
		want := api.ErrArg
		if id > 0 {
			want = api.ErrNone
		}
		checkCheck(t, example(), faces(5, 6, 7, id), want)
		checkCheck(t, example(), faces(id, 5, 6, 7), want)
		checkCheck(t, nil, faces(id), want)
	}
	checkCheck(t, example(), faces(5, 6, 7, 5), api.ErrTwice)
	checkCheck(t, example(), faces(5, 5, 6, 7), api.ErrTwice)
	checkCheck(t, example(), faces(5, 6, 7, 7), api.ErrTwice)
	checkCheck(t, example(), faces(5, 5, 0), api.ErrTwice)
	checkCheck(t, example(), faces(5, 0, 5), api.ErrArg)
	checkCheck(t, example(), faces(0, 0), api.ErrArg)
	l := faces(5, 6, 7)
	l[0], l[2] = api.Face{Id: 5, Class: "\xff", Name: "x", Weight: least, District: most}, api.Face{Id: 7, Weight: -1}
	checkCheck(t, example(), l, api.OK)
}

// wrongEdges returns edges with all errors of check 3, in their order, and these errors.
func wrongEdges() ([]api.Edge, []api.Errno) {
	return []api.Edge{
			{Id: 0, Line: pts(7, 7), Left: 5, Right: 5},
			{Id: 1, Line: pts(7, 7), Left: 5, Right: 5},
			{Id: 9, Line: pts(7, 7), Left: 5, Right: 5},
			{Id: 9, Line: pts(7, 7, far+1, 7), Left: 5, Right: 5},
			{Id: 9, Line: pts(7, 7, 7, 7), Left: 5, Right: 5},
			{Id: 9, Line: pts(7, 7, 8, 8), Left: 99, Right: 99},
			{Id: 9, Line: pts(20, 7, 21, 8), Left: 5, Right: 99},
		},
		[]api.Errno{api.ErrArg, api.ErrTwice, api.ErrMany, api.ErrPoint, api.ErrLine, api.ErrFace, api.ErrNone}
}

func TestCheckEdges(t *testing.T) { // P7.1, check 3
	wrong, errnos := wrongEdges()
	for i, e := range wrong {
		checkCheck(t, append(example(), e), faces(5, 6, 7), errnos[i])
		// Errors of an earlier edge come first.
		for j, f := range wrong {
			if f.Id == 9 {
				f.Id = 10
			}
			checkCheck(t, append(example(), e, f), faces(5, 6, 7), errnos[i])
			checkCheck(t, append(example(), e, f), faces(5, 6, 7, 7), api.ErrTwice)
			checkCheck(t, append(example(), e, f), faces(5, 6, 7, 0), api.ErrArg)
			if j == 1 {
				continue // its Id is that of an edge of the example
			}
			checkCheck(t, append([]api.Edge{f}, append(example(), e)...), faces(5, 6, 7), errnos[j])
		}
	}
	for _, id := range extremes {
		errno := api.ErrArg
		if id > 0 {
			errno = api.OK
		}
		l := example()
		l[3].Id = id
		checkCheck(t, l, faces(5, 6, 7), errno)
		if id != 0 {
			l = example()
			l[3].Left = id
			checkCheck(t, l, faces(5, 6), api.ErrNone)
			l[3].Left, l[3].Right = l[3].Right, l[3].Left
			checkCheck(t, l, faces(5, 6), api.ErrNone)
		}
	}
	l := example()
	l[2].Id = 2
	checkCheck(t, l, faces(5, 6, 7), api.ErrTwice)
	l[2].Id, l[0].Id = 1, 3
	checkCheck(t, l, faces(5, 6, 7), api.OK)
	checkCheck(t, with(edge(3, 0, 0, 0, 0, 10, 10)), faces(5, 6, 7), api.ErrFace)
	checkCheck(t, with(edge(3, 8, 8, 0, 0, 10, 10)), faces(5, 6, 7), api.ErrFace)
	checkCheck(t, with(edge(3, 8, 5, 0, 0, 10, 10)), faces(5, 6, 7), api.ErrNone)
	checkCheck(t, with(edge(3, 6, 8, 0, 0, 10, 10)), faces(5, 6, 7), api.ErrNone)
}

func TestCheckLines(t *testing.T) { // P7.1, check 3
	for _, p := range wrongPoints() {
		l := example()
		l[0].Line[1] = p
		checkCheck(t, l, faces(5, 6, 7), api.ErrPoint)
		l = example()
		l[3].Line[0], l[3].Line[3] = p, p
		checkCheck(t, l, faces(5, 6, 7), api.ErrPoint)
	}
	long := make([]api.Point, 41)
	for i := range long {
		long[i] = pt(i, 20+i%2)
	}
	for n, want := range map[int]api.Errno{0: api.ErrMany, 1: api.ErrMany, 2: api.ErrFace, 40: api.ErrFace, 41: api.ErrMany} {
		checkCheck(t, with(api.Edge{Id: 9, Line: long[:n], Left: 5}), faces(5, 6, 7), want)
	}
	checkCheck(t, with(edge(9, 5, 0, 20, 0, 30, 0, 25, 0)), faces(5, 6, 7), api.ErrLine)
	checkCheck(t, with(edge(9, 5, 0, 20, 0, 30, 0, 20, 0)), faces(5, 6, 7), api.ErrLine) // there and back
	checkCheck(t, with(edge(9, 5, 0, 20, 0, 30, 0, 30, 9, 25, 0)), faces(5, 6, 7), api.ErrLine)
}

func TestCheckMeet(t *testing.T) { // P7.1, check 4
	for name, e := range map[string]api.Edge{
		"across an edge":            edge(9, 6, 5, 3, 2, 3, 8),
		"from a point of a line":    edge(9, 5, 6, 10, 0, 7, 3),
		"from within a segment":     edge(9, 5, 6, 5, 5, 9, 5),
		"with a point on a segment": edge(9, 5, 6, 4, 5, 5, 5, 4, 6),
		"along an edge":             edge(9, 5, 6, 0, 0, 5, 5),
		"the same":                  edge(9, 6, 5, 0, 0, 10, 10),
		"the other way":             edge(9, 5, 6, 10, 10, 0, 0),
		"farther":                   edge(9, 6, 5, 0, 0, 11, 11),
		"through an end":            edge(9, 6, 5, -1, 1, 0, 0, 1, -1),
		"closed, from its side":     edge(9, 7, 5, 6, 2, 7, 1, 7, 3, 6, 2),
		"closed, at its corner":     edge(9, 7, 5, 6, 1, 8, 1, 8, 2, 6, 1),
		"over a level border":       edge(9, 5, 6, 5, -1, 5, 1),
		"along a closed line":       edge(9, 5, 6, 5, 1, 9, 1),
	} {
		l := with(e)
		if wantCheck(l, faces(5, 6, 7)) != api.ErrMeet {
			t.Fatalf("%s: the example is wrong", name)
		}
		for range l {
			checkCheck(t, l, faces(5, 6, 7), api.ErrMeet)
			l = append(l[1:], l[0])
		}
	}
	// Several closed lines may begin at one point.
	flower := []api.Edge{
		edge(1, 1, 0, 0, 0, 5, -1, 5, 1, 0, 0),
		edge(2, 2, 0, 0, 0, 1, 5, -1, 5, 0, 0),
		edge(3, 1, 0, 0, 0, -5, 1, -5, -1, 0, 0),
		edge(4, 0, 3, 0, 0, -1, -5, 1, -5, 0, 0),
		edge(5, 4, 0, 0, 0, 4, 3, 3, 4, 0, 0),
	}
	flower[3] = reversed(flower[3])
	checkCheck(t, flower, faces(1, 2, 3, 4), api.ErrFace) // one of them leads around the outside
	flower[3] = reversed(flower[3])
	flower[3].Left, flower[3].Right = 3, 0
	checkCheck(t, flower, faces(1, 2, 3, 4), api.OK)
	flower[4] = edge(5, 4, 0, 0, 0, 9, 3, 3, 2, 0, 0) // still between the first two
	checkCheck(t, flower, faces(1, 2, 3, 4), api.OK)
	flower[4] = edge(5, 4, 0, 0, 0, 9, 3, 5, 0, 0, 0)
	checkCheck(t, flower, faces(1, 2, 3, 4), api.ErrMeet)
	flower[4] = edge(5, 4, 0, 5, 1, 9, 1, 9, 9, 5, 1) // its end is a point of the first one
	checkCheck(t, flower, faces(1, 2, 3, 4), api.ErrMeet)
	flower[4] = edge(5, 4, 0, 5, 2, 9, 2, 9, 9, 5, 2)
	checkCheck(t, flower, faces(1, 2, 3, 4), api.OK)
}

func TestCheckFace(t *testing.T) { // P7.1, check 5
	for name, e := range map[string]api.Edge{
		"an end of its own":              edge(9, 5, 0, 20, 20, 30, 30),
		"an end at a node":               edge(9, 0, 5, 10, 10, 11, 11),
		"the other way":                  edge(9, 5, 0, 10, 10, 11, 11),
		"within a face":                  edge(9, 5, 6, 2, 4, 2, 8),
		"at a closed line":               edge(9, 5, 6, 4, 1, 2, 1),
		"between nodes":                  edge(9, 6, 5, 0, 0, 1, 3, 10, 10),
		"exchanged":                      edge(3, 5, 6, 0, 0, 10, 10),
		"another face":                   edge(3, 6, 7, 0, 0, 10, 10),
		"outside":                        edge(3, 6, 0, 0, 0, 10, 10),
		"a part of it":                   edge(3, 6, 5, 0, 0, 9, 9),
		"the outside the other way":      edge(1, 0, 5, 0, 0, 10, 0, 10, 10),
		"from a node to a closed line":   edge(9, 5, 7, 0, 0, 4, 1),
		"closed, with a face at a node":  edge(9, 7, 6, 0, 0, 8, 6, 8, 7, 0, 0),
		"closed, with a face beyond it":  edge(9, 7, 5, 0, 0, 6, 8, 7, 8, 0, 0),
		"closed, the wrong way around":   edge(9, 5, 7, 0, 0, 8, 6, 8, 7, 0, 0),
		"closed, the wrong way, reverse": edge(9, 7, 5, 0, 0, 8, 7, 8, 6, 0, 0),
	} {
		l := with(e)
		if wantCheck(l, faces(5, 6, 7)) != api.ErrFace {
			t.Fatalf("%s: the example is wrong: %v", name, wantCheck(l, faces(5, 6, 7)))
		}
		for range l {
			checkCheck(t, l, faces(5, 6, 7), api.ErrFace)
			l = append(l[1:], l[0])
		}
	}
	checkCheck(t, with(edge(9, 7, 5, 0, 0, 8, 6, 8, 7, 0, 0)), faces(5, 6, 7), api.OK) // closed, from a node into a face
	checkCheck(t, with(edge(9, 7, 6, 0, 0, 6, 8, 5, 8, 0, 0)), faces(5, 6, 7), api.OK)
	checkCheck(t, with(edge(9, 7, 0, 0, 0, -6, 8, -6, 5, 0, 0)), faces(5, 6, 7), api.OK)
	checkCheck(t, with(edge(4, 0, 5, 4, 1, 6, 1, 6, 3, 4, 1)), faces(5, 6), api.OK) // a hole
}

func TestCheckInside(t *testing.T) { // P7.1, check 6
	inner := func(left, right int) api.Edge { return edge(9, left, right, 2, 6, 3, 7, 2, 8, 2, 6) }
	outer := func(left, right int) api.Edge {
		return edge(9, left, right, -20, -20, 20, -20, 20, 20, -20, 20, -20, -20)
	}
	beside := func(left, right int) api.Edge { return edge(9, left, right, 12, 3, 15, 3, 15, 8, 12, 3) }
	for _, c := range []struct {
		e    api.Edge
		want api.Errno
	}{
		{inner(7, 6), api.OK},
		{inner(5, 6), api.OK},
		{inner(0, 6), api.OK},
		{inner(6, 7), api.ErrInside}, // the face around it is 6
		{inner(7, 5), api.ErrInside},
		{inner(7, 0), api.ErrInside},
		{reversed(inner(7, 6)), api.OK},
		{reversed(inner(6, 7)), api.ErrInside},
		{beside(7, 0), api.OK},
		{beside(7, 5), api.ErrInside},
		{beside(0, 7), api.ErrInside},
		{outer(5, 0), api.ErrInside}, // now the square isn't outside
		{outer(0, 5), api.ErrInside},
		{edge(4, 7, 5, 4, 8, 6, 8, 5, 9, 4, 8), api.ErrInside}, // it belongs into the other half
		{edge(4, 7, 6, 4, 8, 6, 8, 5, 9, 4, 8), api.OK},
		{edge(4, 7, 5, 14, 1, 16, 1, 16, 3, 14, 1), api.ErrInside},
	} {
		l := with(c.e)
		for range l {
			checkCheck(t, l, faces(5, 6, 7), c.want)
			l = append(l[1:], l[0])
		}
	}
	// All of them one in the other, in both directions, and as open lines.
	nest := []api.Edge{
		edge(1, 1, 0, -40, -40, 40, -40, 40, 40, -40, 40, -40, -40),
		edge(2, 1, 2, -30, 0, 0, 30, 30, 0), edge(3, 1, 2, 30, 0, 0, -30, -30, 0),
		edge(4, 3, 2, -20, 0, 0, -20, 20, 0, 0, 20, -20, 0),
		edge(5, 1, 3, 0, 10, -10, 0), edge(6, 1, 3, 10, 0, 0, 10), edge(7, 3, 1, 10, 0, 0, -10, -10, 0),
	}
	checkCheck(t, nest, faces(1, 2, 3), api.OK)
	for i := range nest {
		others := slices.Delete(cloneEdges(nest), i, i+1)
		if got := cover.Check(others, faces(1, 2, 3)); got == api.OK {
			t.Errorf("without the edge %d it is right, too", nest[i].Id)
		}
		checkCheck(t, others, faces(1, 2, 3), wantCheck(others, faces(1, 2, 3)))
	}
}

// TestStart has sets whose start is a point within a line, or an end of several of them, with the least Y of several points with the least X.
func TestStart(t *testing.T) { // P7.1, check 6
	for _, c := range []struct {
		l  []api.Edge
		in bool
	}{
		{[]api.Edge{edge(1, 1, 0, 5, 0, 0, 5, 0, -5, 5, 0)}, true},
		{[]api.Edge{edge(1, 0, 1, 5, 0, 0, 5, 0, -5, 5, 0)}, false},
		{[]api.Edge{edge(1, 1, 0, 0, 5, 0, -5, 5, 0, 0, 5)}, true},
		{[]api.Edge{edge(1, 1, 0, 0, -5, 5, 0, 0, 5, 0, -5)}, true},
		{[]api.Edge{edge(1, 1, 0, 0, 0, 9, -9), edge(2, 2, 1, 0, 0, 9, -1), edge(3, 0, 2, 0, 0, 0, 9, 9, 9, 9, -1), edge(4, 1, 0, 9, -9, 9, -1)}, true},
		{[]api.Edge{edge(1, 0, 1, 0, 0, 9, -9), edge(2, 1, 0, 0, 0, 9, -1), edge(3, 2, 0, 0, 0, 0, 9, 9, 9, 9, -1), edge(4, 0, 1, 9, -9, 9, -1)}, false},
		{[]api.Edge{edge(1, 1, 0, 0, 0, 9, -9), edge(2, 2, 1, 0, 0, 9, -1), edge(3, 0, 2, 0, 0, -1, 9, -1, 10, 9, -1), edge(4, 1, 0, 9, -9, 9, -1)}, true},
	} {
		l := slices.Compact(slices.Sorted(func(yield func(int) bool) {
			for _, e := range c.l {
				_ = (e.Left == 0 || yield(e.Left)) && (e.Right == 0 || yield(e.Right))
			}
		}))
		want := api.OK
		if !c.in {
			want = wantCheck(c.l, faces(l...))
			if want == api.OK {
				t.Fatalf("the example %v is wrong", c.l)
			}
		}
		checkCheck(t, c.l, faces(l...), want)
	}
}

func TestCheckUsed(t *testing.T) { // P7.1, check 7
	checkCheck(t, example(), faces(8, 5, 6, 7), api.ErrNone)
	checkCheck(t, example(), faces(5, 6, most, 7), api.ErrNone)
	checkCheck(t, example()[:3], faces(5, 6, 7), api.ErrNone)
	checkCheck(t, example()[:3], faces(5, 6), api.OK)
	onlyRight := []api.Edge{reversed(triangle(1, 3, 0))}
	checkCheck(t, onlyRight, faces(3), api.OK)
	checkCheck(t, onlyRight, faces(3, 1), api.ErrNone)
}

// fault changes a right partition with the faces 1 and 2, and returns the error that Check then returns.
type fault func(edges []api.Edge, l []api.Face) ([]api.Edge, []api.Face, api.Errno)

// faults returns for each of the seven checks all kinds of changes, far from each other.
func faults() [7][]fault {
	add := func(errno api.Errno, more ...api.Edge) fault {
		return func(edges []api.Edge, l []api.Face) ([]api.Edge, []api.Face, api.Errno) {
			return append(edges, more...), l, errno
		}
	}
	face := func(errno api.Errno, ids ...int) fault {
		return func(edges []api.Edge, l []api.Face) ([]api.Edge, []api.Face, api.Errno) {
			return edges, append(l, faces(ids...)...), errno
		}
	}
	return [7][]fault{
		{add(api.ErrMany, make([]api.Edge, 200)...), face(api.ErrMany, make([]int, 80)...)},
		{face(api.ErrArg, 0), face(api.ErrArg, -4), face(api.ErrTwice, 2)},
		{
			add(api.ErrArg, edge(0, 1, 2, 800, 0, 801, 0)),
			add(api.ErrTwice, edge(101, 1, 2, 800, 0, 801, 0)),
			add(api.ErrMany, edge(30, 1, 2, 800, 0)),
			add(api.ErrPoint, edge(30, 1, 2, 800, 0, far+1, 0)),
			add(api.ErrLine, edge(30, 1, 2, 800, 0, 800, 0)),
			add(api.ErrFace, edge(30, 1, 1, 800, 0, 801, 0)),
			add(api.ErrNone, edge(30, 1, 9, 800, 0, 801, 0)),
		},
		{
			add(api.ErrMeet, edge(40, 1, 2, 700, 0, 710, 10), edge(41, 1, 2, 700, 10, 710, 0)),
			add(api.ErrMeet, triangle(40, 1, 500), edge(41, 2, 1, 1, 50, 1, 51)),
		},
		{
			add(api.ErrFace, edge(50, 1, 2, 600, 0, 610, 10)),
			add(api.ErrFace, edge(50, 1, 0, 600, 0, 610, 10, 600, 10), edge(51, 2, 0, 600, 10, 600, 0)),
			add(api.ErrFace, edge(50, 1, 0, 600, 0, 610, 0, 605, 9, 600, 0), edge(51, 2, 1, 600, 0, 590, 0, 595, 9, 600, 0)),
		},
		{
			add(api.ErrInside, edge(60, 0, 2, 500, 0, 510, 0, 500, 10, 500, 0)),
			add(api.ErrInside, edge(60, 1, 0, 500, 0, 510, 0, 500, 10, 500, 0), edge(61, 2, 0, 501, 1, 502, 1, 501, 2, 501, 1)),
		},
		{face(api.ErrNone, 77)},
	}
}

func TestOrderOfChecks(t *testing.T) { // P7.1, R2
	all := faults()
	for set := range 1 << len(all) {
		for kind := range 42 {
			edges, l := []api.Edge{triangle(101, 1, 0), triangle(102, 2, 1)}, faces(1, 2)
			want := api.OK
			// Later faults are put in first, so that what earlier checks find comes after them in the lists.
			for i := len(all) - 1; i >= 0; i-- {
				if set>>i&1 == 1 {
					edges, l, want = all[i][kind%len(all[i])](edges, l)
				}
			}
			if got := wantCheck(edges, l); got != want {
				t.Fatalf("the faults %b, %d are wrong: %v, want %v", set, kind, got, want)
			}
			checkCheck(t, edges, l, want)
		}
	}
}

func TestCheckOfPartitions(t *testing.T) { // P7.1
	partitions(21, 400, func(r *rand.Rand, p sample.Partition) {
		checkCheck(t, p.Edges, p.Faces, api.OK)
	})
}

// spoil changes a right partition a little, which mostly makes it wrong.
func spoil(r *rand.Rand, edges []api.Edge, l []api.Face) ([]api.Edge, []api.Face) {
	if len(edges) == 0 {
		return append(edges, triangle(1, 1, 0)), l
	}
	i, j := r.Intn(len(edges)), r.Intn(len(edges))
	e, f := &edges[i], &edges[j]
	switch r.Intn(12) {
	case 0:
		e.Left, e.Right = e.Right, e.Left
	case 1:
		e.Left = f.Left
	case 2:
		e.Right = f.Left
	case 3:
		return slices.Delete(edges, i, i+1), l
	case 4:
		k := r.Intn(len(e.Line))
		e.Line[k] = point.Add(e.Line[k], sample.RandomPoint(r, 3))
	case 5:
		k := r.Intn(len(e.Line))
		e.Line = slices.Delete(e.Line, k, k+1)
	case 6:
		return edges, append(l, api.Face{Id: 1 + r.Intn(1000)})
	case 7:
		k := r.Intn(len(l))
		return edges, slices.Delete(l, k, k+1)
	case 8:
		e.Id = f.Id
	case 9: // all edges of a set in another face
		spoilSet(edges, i, func(g *api.Edge) {
			if g.Left == e.Left {
				g.Left = f.Left
			} else if g.Right == e.Left {
				g.Right = f.Left
			}
		})
	case 10: // all of them elsewhere
		way := point.Sub(randomEnd(r, edges), e.Line[0])
		spoilSet(edges, i, func(g *api.Edge) {
			for k := range g.Line {
				g.Line[k] = point.Add(g.Line[k], way)
			}
		})
	case 11: // all of them in the other direction
		spoilSet(edges, i, func(g *api.Edge) { slices.Reverse(g.Line) })
	}
	return edges, l
}

// spoilSet changes all edges of the connected set to which the edge i belongs.
func spoilSet(edges []api.Edge, i int, change func(*api.Edge)) {
	number := sets(edges)
	for j := range edges {
		if number[j] == number[i] {
			change(&edges[j])
		}
	}
}

func TestCheckOfSpoiledPartitions(t *testing.T) { // P7.1
	count := map[api.Errno]int{}
	r := rand.New(rand.NewSource(22))
	for range 6000 {
		ids := r.Perm(30)[:1+r.Intn(5)]
		for i := range ids {
			ids[i]++
		}
		p := sample.RandomPartition(r, 1+r.Intn(5), 40+r.Intn(200), ids)
		edges, l := spoil(r, p.Edges, p.Faces)
		want := wantCheck(edges, l)
		checkCheck(t, edges, l, want)
		edges = disordered(r, edges)
		checkCheck(t, edges, l, wantCheck(edges, l))
		count[want]++
	}
	for _, errno := range []api.Errno{api.OK, api.ErrTwice, api.ErrLine, api.ErrMeet, api.ErrFace, api.ErrInside, api.ErrNone} {
		if count[errno] < 15 {
			t.Errorf("only %d times %v", count[errno], errno)
		}
	}
}
