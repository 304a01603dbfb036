package sample

import (
	"slices"

	"hachure/api"
	"hachure/network"
	"hachure/point"
)

// RandomMap draws a right map: the partition p, whose edges get other Ids, with ways, and with places in its faces, all of them of up to the given number of districts.
func RandomMap(r Source, p Partition, districts int) api.Map {
	m := api.Map{Edges: p.Edges, Faces: slices.Clone(p.Faces)}
	for i := range m.Faces {
		f := &m.Faces[i]
		f.Class, f.Name = randomClass(r), randomName(r)
		f.Weight, f.District = 1+r.Intn(api.MaxWeight), 1+r.Intn(districts)
	}
	m.Ways = p.randomWays(r, r.Intn(24), districts)
	m.Places = p.randomPlaces(r, r.Intn(40), m.Faces)
	number(r, m)
	return m
}

func randomClass(r Source) string {
	return []string{"field", "path", "tree", "water", "a", "abcdefghijkl"}[r.Intn(6)]
}

// randomName draws a name that is often equal to others; it may be none.
func randomName(r Source) string {
	return []string{"", "", "Oak Gate", "oak", "Mill", "Elm Walk", "7", "~abcdefghijklmnopqrstuv~"}[r.Intn(8)]
}

// number gives edges, ways and places of m Ids that differ from each other and from those of the faces.
func number(r Source, m api.Map) {
	used := map[int]bool{}
	for _, f := range m.Faces {
		used[f.Id] = true
	}
	next := func() int {
		for {
			if id := 1 + r.Intn(2000); !used[id] {
				used[id] = true
				return id
			}
		}
	}
	for i := range m.Edges {
		m.Edges[i].Id = next()
	}
	for i := range m.Ways {
		m.Ways[i].Id = next()
	}
	for i := range m.Places {
		m.Places[i].Id = next()
	}
}

// randomWays draws up to n ways that fit together, many of which begin where another one ends.
func (p Partition) randomWays(r Source, n, districts int) []api.Way {
	var ways []api.Way
	for i := range n {
		w := api.Way{
			Id:    1 + i,
			Line:  p.randomLine(r),
			Level: r.Intn(2*api.MaxLevel+1) - api.MaxLevel,
			Class: randomClass(r), Name: randomName(r), Stairs: r.Intn(4) == 0,
			Weight: 1 + r.Intn(api.MaxWeight), District: 1 + r.Intn(districts),
		}
		if len(ways) > 0 && r.Intn(3) > 0 {
			before := ways[r.Intn(len(ways))]
			w.Line[0], w.Level = before.Line[len(before.Line)-1], before.Level
		}
		if network.Check(append(slices.Clone(ways), w)) == api.OK {
			ways = append(ways, w)
		}
	}
	return ways
}

// randomLine draws two to five points, of which the first one is not far from p, and the others are not far from each other.
func (p Partition) randomLine(r Source) []api.Point {
	box := p.box()
	step := 2 + max(box.X1-box.X0, box.Y1-box.Y0)/6
	l := []api.Point{p.RandomNear(r)}
	for range 1 + r.Intn(4) {
		q := point.Add(l[len(l)-1], RandomPoint(r, step))
		l = append(l, Pt(right(q.X), right(q.Y)))
	}
	return l
}

// right returns the coordinate next to x that a right point can have.
func right(x int) int {
	return min(max(x, -api.MaxCoord), api.MaxCoord)
}

// RandomNear draws a right point in p, or not far from it.
func (p Partition) RandomNear(r Source) api.Point {
	box := p.box()
	return Pt(randomNear(r, box.X0, box.X1), randomNear(r, box.Y0, box.Y1))
}

// randomNear draws a coordinate from low to high, or a bit beyond.
func randomNear(r Source, low, high int) int {
	beyond := 1 + (high-low)/8
	return between(r, right(low-beyond), right(high+beyond))
}

// box returns the smallest rectangle with all cells.
func (p Partition) box() api.Rect {
	n := len(p.Cells)
	return point.Box([]api.Point{p.at(Pt(0, 0)), p.at(Pt(n, 0)), p.at(Pt(0, n)), p.at(Pt(n, n))})
}

// randomPlaces draws up to n places in faces, each of the district of its face.
func (p Partition) randomPlaces(r Source, n int, faces []api.Face) []api.Place {
	var places []api.Place
	for range n {
		at := p.RandomNear(r)
		id, ok := p.FaceAt(at)
		i := slices.IndexFunc(faces, func(f api.Face) bool { return f.Id == id })
		if !ok || i < 0 {
			continue
		}
		places = append(places, api.Place{
			At:    at,
			Class: randomClass(r), Name: randomName(r),
			Weight: 1 + r.Intn(api.MaxWeight), District: faces[i].District,
		})
	}
	return places
}
