// Package sample makes points, lists of points, partitions and maps for the tests of the layers. No layer imports it.
package sample

import (
	"math"

	"hachure/api"
)

// Source draws numbers from 0 to n - 1, or an order of all of them, as a generator of math/rand does.
type Source interface {
	Intn(n int) int
	Perm(n int) []int
}

// Pt returns the point with the coordinates x and y.
func Pt(x, y int) api.Point {
	return api.Point{X: x, Y: y}
}

// Pts returns the points with the coordinates n, X before Y.
func Pts(n ...int) []api.Point {
	l := make([]api.Point, len(n)/2)
	for i := range l {
		l[i] = Pt(n[2*i], n[2*i+1])
	}
	return l
}

// Grid returns all points with coordinates from 0 to n - 1.
func Grid(n int) []api.Point {
	return Around(0, n-1)
}

// Around returns all points with coordinates from low to high.
func Around(low, high int) []api.Point {
	var l []api.Point
	for x := low; x <= high; x++ {
		for y := low; y <= high; y++ {
			l = append(l, Pt(x, y))
		}
	}
	return l
}

// WrongPoints returns points that are not right: by one coordinate or both, a little or a lot, bounded or not.
func WrongPoints() []api.Point {
	var l []api.Point
	for _, n := range []int{api.MaxCoord + 1, -api.MaxCoord - 1, 1 << 20, 1 << 32, 1 << 60, 1<<60 + 1, -1 << 62, math.MaxInt, math.MinInt} {
		l = append(l, Pt(n, 3), Pt(3, n), Pt(n, n), Pt(n, -api.MaxCoord))
	}
	return l
}

// EveryList visits all lists of n points of l, each in the same memory.
func EveryList(l []api.Point, n int, visit func([]api.Point)) {
	fill(make([]api.Point, n), 0, l, visit)
}

// fill visits all lists that begin with the first i points of list.
func fill(list []api.Point, i int, l []api.Point, visit func([]api.Point)) {
	if i == len(list) {
		visit(list)
		return
	}
	for _, p := range l {
		list[i] = p
		fill(list, i+1, l, visit)
	}
}

// RandomPoint draws a point with coordinates from -limit to limit.
func RandomPoint(r Source, limit int) api.Point {
	x := r.Intn(2*limit+1) - limit
	return Pt(x, r.Intn(2*limit+1)-limit)
}

// RandomList draws n points with coordinates from -limit to limit.
func RandomList(r Source, n, limit int) []api.Point {
	l := make([]api.Point, n)
	for i := range l {
		l[i] = RandomPoint(r, limit)
	}
	return l
}
