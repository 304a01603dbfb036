package sample

import (
	"math"
	"slices"

	"hachure/api"
)

// RandomTown draws a right map of up to 64 cells, and the partition that it has.
func RandomTown(r Source) (api.Map, Partition) {
	n := 1 + r.Intn(8)
	ids := r.Perm(200)[:1+r.Intn(n*n)]
	for i := range ids {
		ids[i]++
	}
	p := RandomPartition(r, n, api.MaxCoord>>r.Intn(8), ids)
	return RandomMap(r, p, 1+r.Intn(1+r.Intn(api.MaxDistrict))), p
}

// AnyNumber draws a number that is often equal to others, and sometimes one that no right map has as an Id, a weight or a district, or one near those.
func AnyNumber(r Source) int {
	extremes := []int{math.MinInt, math.MinInt + 1, -1, 0, api.MaxDistrict, api.MaxDistrict + 1, api.MaxWeight + 1, 1 << 30, 1<<30 + 1, math.MaxInt - 1, math.MaxInt}
	if r.Intn(10) == 0 {
		return extremes[r.Intn(len(extremes))]
	}
	return r.Intn(8)
}

// AnyMap draws a map of any kind, in which many Ids and districts are the same, and whose Lines have up to n points.
func AnyMap(r Source, n int) api.Map {
	var m api.Map
	limit := []int{1, 9, api.MaxCoord, api.MaxCoord + 1, math.MaxInt / 4}[r.Intn(5)]
	line := func() []api.Point { return RandomList(r, r.Intn(n+1), limit) }
	for range r.Intn(8) {
		m.Edges = append(m.Edges, api.Edge{Id: AnyNumber(r), Line: line(), Left: AnyNumber(r), Right: AnyNumber(r)})
	}
	for range r.Intn(6) {
		m.Faces = append(m.Faces, api.Face{Id: AnyNumber(r), Class: anyText(r), Name: anyText(r), Weight: AnyNumber(r), District: AnyNumber(r)})
	}
	for range r.Intn(6) {
		m.Ways = append(m.Ways, api.Way{
			Id: AnyNumber(r), Line: line(), Level: AnyNumber(r),
			Class: anyText(r), Name: anyText(r), Stairs: r.Intn(2) == 0, Weight: AnyNumber(r), District: AnyNumber(r),
		})
	}
	for range r.Intn(6) {
		m.Places = append(m.Places, api.Place{Id: AnyNumber(r), At: RandomPoint(r, limit), Class: anyText(r), Name: anyText(r), Weight: AnyNumber(r), District: AnyNumber(r)})
	}
	return m
}

func anyText(r Source) string {
	return []string{"", "oak", "Oak", "\xff", " "}[r.Intn(5)]
}

// Disordered returns m with each list in another order.
func Disordered(r Source, m api.Map) api.Map {
	m = CloneMap(m)
	return api.Map{Edges: Shuffled(r, m.Edges), Faces: Shuffled(r, m.Faces), Ways: Shuffled(r, m.Ways), Places: Shuffled(r, m.Places)}
}

// Shuffled returns l in another order.
func Shuffled[T any](r Source, l []T) []T {
	other := make([]T, len(l))
	for i, j := range r.Perm(len(l)) {
		other[i] = l[j]
	}
	return other
}

// CloneMap returns m in memory of its own.
func CloneMap(m api.Map) api.Map {
	c := api.Map{Edges: slices.Clone(m.Edges), Faces: slices.Clone(m.Faces), Ways: slices.Clone(m.Ways), Places: slices.Clone(m.Places)}
	for i := range c.Edges {
		c.Edges[i].Line = slices.Clone(c.Edges[i].Line)
	}
	for i := range c.Ways {
		c.Ways[i].Line = slices.Clone(c.Ways[i].Line)
	}
	return c
}

// SameMap reports whether a and b are equal, element by element; nil slices are equal to empty ones.
func SameMap(a, b api.Map) bool {
	return slices.EqualFunc(a.Edges, b.Edges, sameEdge) && slices.Equal(a.Faces, b.Faces) &&
		slices.EqualFunc(a.Ways, b.Ways, sameWay) && slices.Equal(a.Places, b.Places)
}

func sameEdge(a, b api.Edge) bool {
	return a.Id == b.Id && slices.Equal(a.Line, b.Line) && a.Left == b.Left && a.Right == b.Right
}

func sameWay(a, b api.Way) bool {
	return a.Id == b.Id && slices.Equal(a.Line, b.Line) && a.Level == b.Level && a.Class == b.Class && a.Name == b.Name &&
		a.Stairs == b.Stairs && a.Weight == b.Weight && a.District == b.District
}

// Scribble overwrites all memory of m, also beyond the ends of slices.
func Scribble(m api.Map) {
	for _, e := range m.Edges[:cap(m.Edges)] {
		ScribbleLine(e.Line)
	}
	for _, w := range m.Ways[:cap(m.Ways)] {
		ScribbleLine(w.Line)
	}
	clear(m.Edges[:cap(m.Edges)])
	clear(m.Faces[:cap(m.Faces)])
	clear(m.Ways[:cap(m.Ways)])
	clear(m.Places[:cap(m.Places)])
}

// ScribbleLine overwrites all memory of l, also beyond its end.
func ScribbleLine(l []api.Point) {
	l = l[:cap(l)]
	for i := range l {
		l[i] = Pt(math.MaxInt, math.MaxInt)
	}
}
