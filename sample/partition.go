package sample

import (
	"slices"

	"hachure/api"
	"hachure/point"
)

// Partition is a right partition whose faces are made up of cells, which are parallelograms between the points of a lattice.
type Partition struct {
	Edges []api.Edge
	Faces []api.Face
	// Cells are the Ids of the faces of all cells; beyond them everything is outside.
	Cells [][]int
	// The cell (x, y) begins at Origin + x Right + y Up; Up is to the left of Right.
	Origin, Right, Up api.Point
}

// RandomPartition draws a partition of n by n cells into faces with the given Ids, some of which may be in several parts. With n up to 9 it has at most MaxEdges edges. Its points are from -limit to limit, which is at least 6 n.
func RandomPartition(r Source, n, limit int, ids []int) Partition {
	p := Partition{Cells: make([][]int, n)}
	p.Right, p.Up = randomSides(r, limit/n)
	corners := []api.Point{{}, p.at(Pt(n, 0)), p.at(Pt(0, n)), p.at(Pt(n, n))}
	box := point.Box(corners)
	p.Origin = Pt(between(r, -limit-box.X0, limit-box.X1), between(r, -limit-box.Y0, limit-box.Y1))
	for x := range n {
		p.Cells[x] = make([]int, n)
		for y := range n {
			p.Cells[x][y] = p.randomFace(r, Pt(x, y), ids)
		}
	}
	p.Edges = p.randomEdges(r)
	for _, id := range ids {
		if slices.ContainsFunc(p.Cells, func(l []int) bool { return slices.Contains(l, id) }) {
			p.Faces = append(p.Faces, api.Face{Id: id})
		}
	}
	return p
}

// FaceAt returns the face in which q lies, or 0 outside; false if q lies on a border.
func (p Partition) FaceAt(q api.Point) (int, bool) {
	area := point.Cross(p.Right, p.Up)
	way := point.Sub(q, p.Origin)
	faces := []int{}
	for _, x := range touched(point.Cross(way, p.Up), area) {
		for _, y := range touched(point.Cross(p.Right, way), area) {
			faces = append(faces, p.cell(Pt(x, y)))
		}
	}
	if len(slices.Compact(faces)) > 1 {
		return 0, false
	}
	return faces[0], true
}

// Area2 returns twice the area of a face.
func (p Partition) Area2(face int) int {
	cells := 0
	for _, column := range p.Cells {
		for _, id := range column {
			if id == face {
				cells++
			}
		}
	}
	return 2 * cells * point.Cross(p.Right, p.Up)
}

// touched returns the numbers of the cells of a row to which the point n / d belongs: two, if it is between them.
func touched(n, d int) []int {
	i := n / d
	switch {
	case n%d == 0:
		return []int{i - 1, i}
	case n < 0:
		return []int{i - 1}
	}
	return []int{i}
}

// at returns the point of the lattice with the number c.
func (p Partition) at(c api.Point) api.Point {
	return Pt(p.Origin.X+c.X*p.Right.X+c.Y*p.Up.X, p.Origin.Y+c.X*p.Right.Y+c.Y*p.Up.Y)
}

// cell returns the face of the cell c.
func (p Partition) cell(c api.Point) int {
	if c.X < 0 || c.Y < 0 || c.X >= len(p.Cells) || c.Y >= len(p.Cells) {
		return 0
	}
	return p.Cells[c.X][c.Y]
}

// randomSides draws two sides of a parallelogram, the second one to the left of the first one, none of them longer than limit in X and Y together.
func randomSides(r Source, limit int) (right, up api.Point) {
	for {
		right, up = RandomPoint(r, limit/2), RandomPoint(r, limit/2)
		if point.Cross(right, up) > 0 {
			return right, up
		}
	}
}

func between(r Source, low, high int) int {
	return low + r.Intn(high-low+1)
}

// randomFace draws a face for the cell c, often that of one beside it, so that faces get larger.
func (p Partition) randomFace(r Source, c api.Point, ids []int) int {
	switch r.Intn(4) {
	case 0:
		return p.before(point.Sub(c, Pt(1, 0)))
	case 1:
		return p.before(point.Sub(c, Pt(0, 1)))
	case 2:
		if r.Intn(3) == 0 {
			return 0
		}
	}
	return ids[r.Intn(len(ids))]
}

// before returns the face of a cell whose face was drawn already, or of one beyond the border.
func (p Partition) before(c api.Point) int {
	if c.X < 0 || c.Y < 0 {
		return 0
	}
	return p.Cells[c.X][c.Y]
}

// step is a border between two cells: it leads from the point from of the lattice to the next one.
type step struct{ from, to api.Point }

// sides returns the faces to the left and to the right of s.
func (p Partition) sides(s step) (left, right int) {
	switch point.Sub(s.to, s.from) {
	case Pt(1, 0):
		return p.cell(s.from), p.cell(point.Sub(s.from, Pt(0, 1)))
	case Pt(0, 1):
		return p.cell(point.Sub(s.from, Pt(1, 0))), p.cell(s.from)
	}
	right, left = p.sides(step{s.to, s.from})
	return left, right
}

// border reports whether different faces are beside s.
func (p Partition) border(s step) bool {
	left, right := p.sides(s)
	return left != right
}

// ways returns all borders that lead away from c.
func (p Partition) ways(c api.Point) []step {
	var l []step
	for i := range 4 {
		if s := (step{c, point.Add(c, point.Turn(Pt(1, 0), i))}); p.border(s) {
			l = append(l, s)
		}
	}
	return l
}

// randomEdges joins borders to edges, which end where more than two of them meet, and at some other points.
func (p Partition) randomEdges(r Source) []api.Edge {
	lattice := Grid(len(p.Cells) + 1)
	var cuts []api.Point
	for _, c := range lattice {
		if len(p.ways(c)) > 2 || r.Intn(20) == 0 {
			cuts = append(cuts, c)
		}
	}
	used := map[step]bool{}
	var edges []api.Edge
	// Borders that none of the cuts is on begin anywhere.
	for _, c := range slices.Concat(cuts, lattice) {
		for _, s := range p.ways(c) {
			if !used[s] {
				edges = append(edges, p.randomEdge(r, p.walk(s, cuts, used)))
			}
		}
	}
	for i, id := range r.Perm(2 * len(edges))[:len(edges)] {
		edges[i].Id = 1 + id
	}
	return edges
}

// walk follows borders from s on, up to a cut, to the point where it began, or as far as a line can lead.
func (p Partition) walk(s step, cuts []api.Point, used map[step]bool) []api.Point {
	l := []api.Point{s.from}
	for {
		used[s], used[step{s.to, s.from}] = true, true
		l = append(l, s.to)
		if len(l) == api.MaxPoints || s.to == l[0] || slices.Contains(cuts, s.to) {
			return l
		}
		ways := p.ways(s.to)
		if s = ways[0]; used[s] {
			s = ways[1]
		}
		if used[s] {
			return l
		}
	}
}

// randomEdge returns the edge with a line through points of the lattice, in one of both directions, perhaps without those at which it leads straight on.
func (p Partition) randomEdge(r Source, l []api.Point) api.Edge {
	if r.Intn(2) == 0 {
		slices.Reverse(l)
	}
	left, right := p.sides(step{l[0], l[1]})
	short := r.Intn(2) == 0
	var line []api.Point
	for i, c := range l {
		if short && i > 0 && i < len(l)-1 && point.Sub(c, l[i-1]) == point.Sub(l[i+1], c) {
			continue
		}
		line = append(line, p.at(c))
	}
	return api.Edge{Line: line, Left: left, Right: right}
}
