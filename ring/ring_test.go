package ring_test

import (
	"math"
	"math/big"
	"math/rand"
	"slices"
	"testing"

	"hachure/api"
	"hachure/exact"
	"hachure/line"
	"hachure/point"
	"hachure/ring"
	"hachure/sample"
)

const (
	least = math.MinInt
	most  = math.MaxInt
	far   = api.MaxCoord
	// bound is the greatest coordinate of bounded points.
	bound = 1 << 60
	// spotBound is the greatest numerator of bounded spots, and spotBoundD their greatest D.
	spotBound  = 1 << 37
	spotBoundD = 1 << 22
)

var (
	pt          = sample.Pt
	pts         = sample.Pts
	grid        = sample.Grid
	around      = sample.Around
	everyList   = sample.EveryList
	wrongPoints = sample.WrongPoints
)

func spot(x, y, d int) api.Spot {
	return api.Spot{X: x, Y: y, D: d}
}

// example is the ring of the chapter's examples.
func example() []api.Point {
	return pts(0, 0, 4, 0, 4, 4, 2, 1, 0, 4)
}

// square is the ring of the four points that are farthest away.
func square() []api.Point {
	return pts(-far, -far, far, -far, far, far, -far, far)
}

// comb returns a ring of n points, counterclockwise, with a base and teeth of different heights.
func comb(n int) []api.Point {
	l := pts(0, 0, 10*n, 0)
	for i := range n - 2 {
		l = append(l, pt(10*(n-i)-5, 5+(i*7)%11*(i%2)))
	}
	return l
}

// randomStar returns up to n points in the order of their directions from (0, 0), counterclockwise, which mostly make up a ring.
func randomStar(r *rand.Rand, n, limit int) []api.Point {
	l := sample.RandomList(r, n, limit)
	slices.SortFunc(l, func(p, q api.Point) int {
		a, b := math.Atan2(float64(p.Y), float64(p.X)), math.Atan2(float64(q.Y), float64(q.X))
		switch {
		case a < b:
			return -1
		case a > b:
			return 1
		}
		return 0
	})
	return l
}

// limits are bounds of random points: on narrow grids points are often equal, or on one line.
var limits = []int{1, 2, 3, 5, 40, far / 2, far}

// randomRings visits lists, of which many are valid rings, in both directions.
func randomRings(seed int64, visit func(r *rand.Rand, l []api.Point, limit int)) {
	r := rand.New(rand.NewSource(seed))
	for i := range 4000 {
		limit := limits[r.Intn(len(limits))]
		l := sample.RandomList(r, 3+r.Intn(4), limit)
		if i%2 == 0 {
			l = randomStar(r, 3+r.Intn(37), limit)
		}
		if r.Intn(2) == 0 {
			slices.Reverse(l)
		}
		visit(r, l, limit)
	}
}

// from returns l, beginning with its point i.
func from(l []api.Point, i int) []api.Point {
	return slices.Concat(l[i:], l[:i])
}

// changed returns all points of l, each turned by n quarters and then moved by d.
func changed(l []api.Point, n int, d api.Point) []api.Point {
	m := make([]api.Point, len(l))
	for i, p := range l {
		m[i] = point.Add(point.Turn(p, n), d)
	}
	return m
}

func reversed(l []api.Point) []api.Point {
	m := slices.Clone(l)
	slices.Reverse(m)
	return m
}

// wantCheck asks each pair of segments how many points they have in common.
func wantCheck(l []api.Point) api.Errno {
	n := len(l)
	if n < 3 || n > 39 {
		return api.ErrMany
	}
	for _, p := range l {
		if max(p.X, p.Y, -p.X, -p.Y) > far || p.X == least || p.Y == least {
			return api.ErrPoint
		}
	}
	for i := range n {
		if l[i] == l[(i+1)%n] {
			return api.ErrLine
		}
		for j := range i {
			want := 0
			if j == i-1 || i == n-1 && j == 0 {
				want = 1
			}
			if point.Meet(l[i], l[(i+1)%n], l[j], l[(j+1)%n]) != want {
				return api.ErrLine
			}
		}
	}
	return api.OK
}

// wantInside decides for a valid ring and a point in it, on it or near it. Beside p itself, the way from p on that leads far to the right, and up by 1, passes no point with coordinates of less than 2^29: the ring is crossed between its points, or it isn't.
func wantInside(l []api.Point, p api.Point) int {
	goal := pt(p.X+1<<30, p.Y+1)
	crossed := 0
	for i, a := range l {
		b := l[(i+1)%len(l)]
		if point.On(a, b, p) {
			return 0
		}
		crossed += point.Meet(a, b, p, goal)
	}
	return 2*(crossed%2) - 1
}

// end is an end of a segment, in numbers without bounds.
type end struct{ x, y *big.Rat }

func endOf(s api.Spot) end {
	return end{big.NewRat(int64(s.X), int64(s.D)), big.NewRat(int64(s.Y), int64(s.D))}
}

// wantRay computes where the segment from a to b is as high as p.
func wantRay(a, b end, p api.Point) int {
	x, y := new(big.Rat).SetInt64(int64(p.X)), new(big.Rat).SetInt64(int64(p.Y))
	sign := 1
	if a.y.Cmp(b.y) > 0 {
		a, b, sign = b, a, -1
	}
	if a.y.Cmp(y) > 0 || y.Cmp(b.y) >= 0 {
		return 0
	}
	// x of a, and what it grows by on the way up to y.
	at := new(big.Rat).Sub(y, a.y)
	at.Quo(at, new(big.Rat).Sub(b.y, a.y))
	at.Mul(at, new(big.Rat).Sub(b.x, a.x))
	at.Add(at, a.x)
	if at.Cmp(x) < 0 {
		return sign
	}
	return 0
}

func checkCheck(t *testing.T, l []api.Point, want api.Errno) {
	t.Helper()
	before := slices.Clone(l)
	if got := ring.Check(l); got != want {
		t.Fatalf("Check(%v) = %v, want %v", l, got, want)
	}
	if !slices.Equal(l, before) { // R3
		t.Fatalf("Check changes %v into %v", before, l)
	}
}

func TestCheckMany(t *testing.T) { // P6.1
	wrong := pt(far+1, 0)
	for name, c := range map[string]struct {
		l    []api.Point
		want api.Errno
	}{
		"nil":                        {nil, api.ErrMany},
		"empty":                      {[]api.Point{}, api.ErrMany},
		"one":                        {pts(3, 4), api.ErrMany},
		"two":                        {pts(0, 0, 4, 0), api.ErrMany},
		"two, equal":                 {pts(4, 0, 4, 0), api.ErrMany},
		"two, one isn't right":       {[]api.Point{pt(0, 0), wrong}, api.ErrMany},
		"three":                      {pts(0, 0, 4, 0, 0, 4), api.OK},
		"38":                         {comb(38), api.OK},
		"39":                         {comb(39), api.OK},
		"40":                         {comb(40), api.ErrMany},
		"41":                         {comb(41), api.ErrMany},
		"1000":                       {comb(1000), api.ErrMany},
		"40, one isn't right":        {append(comb(39), wrong), api.ErrMany},
		"40, two are equal":          {append(comb(39), comb(39)[38]), api.ErrMany},
		"40, it ends as it begins":   {append(comb(39), comb(39)[0]), api.ErrMany},
		"39, the last isn't right":   {append(comb(38), wrong), api.ErrPoint},
		"39, the last two are equal": {append(comb(38), comb(38)[37]), api.ErrLine},
		"39, it ends as it begins":   {append(comb(38), comb(38)[0]), api.ErrLine},
	} {
		if got := ring.Check(c.l); got != c.want {
			t.Errorf("%s: %v, want %v", name, got, c.want)
		}
	}
}

func TestCheckPoint(t *testing.T) { // P6.1
	for _, p := range wrongPoints() {
		for _, l := range [][]api.Point{
			{p, pt(1, 1), pt(2, 5)},
			{pt(1, 1), p, pt(2, 5)},
			{pt(1, 1), pt(2, 5), p},
			{p, p, p},                              // equal neighbours
			{pt(1, 1), pt(1, 1), p},                // equal neighbours before it
			{p, pt(1, 1), pt(1, 1)},                // and after it
			{p, pt(1, 1), p},                       // it ends as it begins
			append(example(), p),                   // at the end
			append(pts(0, 0, 4, 4, 4, 0, 0, 4), p), // a ring that meets itself
		} {
			checkCheck(t, l, api.ErrPoint)
		}
	}
	checkCheck(t, square(), api.OK)
	checkCheck(t, reversed(square()), api.OK)
}

func TestCheckLine(t *testing.T) { // P6.1
	for _, c := range []struct {
		l    []api.Point
		want api.Errno
	}{
		{example(), api.OK},
		{pts(0, 0, 4, 0), api.ErrMany},
		{pts(0, 0, 4, 4, 4, 0, 0, 4), api.ErrLine}, // an eight

		{pts(0, 0, 4, 0, 0, 0), api.ErrLine},             // it ends where it begins, and leads there and back
		{pts(0, 0, 4, 0, 4, 4, 0, 0), api.ErrLine},       // it ends where it begins
		{append(example(), pt(0, 0)), api.ErrLine},       // so does this one
		{pts(0, 0, 0, 0, 4, 0, 4, 4), api.ErrLine},       // neighbours are equal
		{pts(0, 0, 4, 0, 4, 4, 4, 4), api.ErrLine},       // the last ones are
		{pts(2, 2, 2, 2, 2, 2), api.ErrLine},             // all are
		{pts(0, 0, 4, 0, 8, 0), api.ErrLine},             // all are on one line
		{pts(0, 0, 8, 0, 4, 0), api.ErrLine},             // in another order
		{pts(0, 0, 4, 0, 8, 0, 0, 8), api.OK},            // straight on at a corner
		{pts(4, 0, 8, 0, 0, 8, 0, 0), api.OK},            // at the first one
		{pts(0, 0, 4, 0, 2, 0, 0, 4), api.ErrLine},       // back on the way
		{pts(2, 0, 0, 4, 0, 0, 4, 0), api.ErrLine},       // back where it closes
		{pts(0, 0, 4, 0, 4, 4, 2, 0, 0, 4), api.ErrLine}, // a corner on the first segment
		{pts(0, 4, 0, 0, 4, 0, 4, 4, 2, 0), api.ErrLine}, // the last corner on a segment
		{pts(2, 0, 4, 4, 4, 0, 0, 0, 0, 4), api.ErrLine}, // the first corner on one
		{pts(0, 0, 4, 0, 4, 4, 0, 0, 0, 4), api.ErrLine}, // through a corner twice
		{pts(0, 0, 2, 2, 4, 0, 4, 4, 2, 2, 0, 4), api.ErrLine},
		{pts(0, 0, 4, 0, 4, 4, 2, -1, 0, 4), api.ErrLine}, // crossing the first segment
		{pts(0, 0, 9, 0, 9, 9, 5, 9, 5, -1, 4, -1, 4, 9, 0, 9), api.ErrLine},
		{pts(0, 0, 9, 0, 9, 9, 5, 9, 5, 1, 4, 1, 4, 9, 0, 9), api.OK},
		{pts(0, 0, 9, 0, 9, 9, 5, 9, 5, 0, 4, 0, 4, 9, 0, 9), api.ErrLine}, // a segment on another one
		{pts(0, 0, 4, 0, 4, 4, -1, 4, 2, 2, -1, 1), api.OK},
		{pts(0, 0, 4, 0, 4, 4, -1, 4, 2, 2, -1, 0), api.OK},
		{pts(0, 0, 4, 0, 4, 4, -1, 4, 2, 2, 1, 0), api.ErrLine}, // the segment that closes it
	} {
		for i := range c.l {
			checkCheck(t, from(c.l, i), c.want)
			checkCheck(t, reversed(from(c.l, i)), c.want)
		}
	}
}

func TestCheckOfAllSmallLists(t *testing.T) { // P6.1
	check := func(l []api.Point) { checkCheck(t, l, wantCheck(l)) }
	everyList(grid(4), 3, check)
	everyList(grid(3), 4, check)
	everyList(grid(3), 5, check)
}

func TestCheckOfManyLists(t *testing.T) { // P6.1
	valid, wrong := 0, 0
	randomRings(1, func(r *rand.Rand, l []api.Point, limit int) {
		want := wantCheck(l)
		checkCheck(t, l, want)
		if want == api.OK {
			valid++
		} else {
			wrong++
		}
		if got := line.Check(append(slices.Clone(l), l[0])); got != want {
			t.Fatalf("line.Check of %v = %v, want %v", l, got, want)
		}
	})
	if valid < 500 || wrong < 500 {
		t.Errorf("only %d valid rings, and %d others", valid, wrong)
	}
}

func TestCheckBehindTheList(t *testing.T) { // R3
	behind := append(example(), pt(77, 78), pt(79, 80))
	l := behind[:5]
	if ring.Check(l) != api.OK || ring.Inside(l, pt(1, 1)) != 1 || ring.Area2(l) != 20 {
		t.Error("a list in a longer one isn't the ring")
	}
	if behind[5] != pt(77, 78) || behind[6] != pt(79, 80) {
		t.Errorf("what is behind the list was changed into %v", behind[5:])
	}
}

func TestArea2(t *testing.T) { // P6.2
	for _, c := range []struct {
		l    []api.Point
		want int
	}{
		{nil, 0},
		{[]api.Point{}, 0},
		{pts(7, 9), 0},
		{pts(most, least), 0},
		{pts(7, 9, 2, 5), 0}, // there and back
		{example(), 20},
		{reversed(example()), -20},
		{pts(0, 0, 1, 0, 0, 1), 1},
		{pts(0, 0, 0, 1, 1, 0), -1},
		{pts(5, 5, 6, 5, 5, 6), 1},
		{pts(0, 0, 3, 0, 3, 3, 0, 3), 18},
		{append(example(), pt(0, 0)), 20},             // it ends where it begins
		{pts(0, 0, 4, 4, 4, 0, 0, 4), 0},              // an eight
		{pts(0, 0, 4, 0, 0, 4, 0, 0, 4, 0, 0, 4), 32}, // twice around
		{square(), 1 << 31},
		{reversed(square()), -1 << 31},
		{comb(39)[:2], 0},
		{pts(0, 0, 1<<20, 0, 0, 1<<20), 1 << 40}, // not right
		{pts(0, 0, 1<<31, 0, 0, 1<<31), 1 << 62}, // the greatest numbers wrap around
		{pts(0, 0, 1<<32, 0, 0, 1<<31), least},
		{pts(0, 0, 1<<32, 0, 0, 1<<32), 0},
		{pts(0, 0, most, 0, 0, 2), -2},
		{pts(0, 0, most, 0, 0, most), 1},
		{pts(0, 0, least, 0, 0, -1), least},
	} {
		before := slices.Clone(c.l)
		if got := ring.Area2(c.l); got != c.want {
			t.Errorf("Area2(%v) = %d, want %d", c.l, got, c.want)
		}
		if !slices.Equal(c.l, before) { // R3
			t.Errorf("Area2 changes %v into %v", before, c.l)
		}
	}
}

// bigArea2 computes with numbers without bounds, of which the lowest 64 bits are left.
func bigArea2(l []api.Point) int {
	sum := new(big.Int)
	for i, p := range l {
		q := l[(i+1)%len(l)]
		sum.Add(sum, new(big.Int).Mul(big.NewInt(int64(p.X)), big.NewInt(int64(q.Y))))
		sum.Sub(sum, new(big.Int).Mul(big.NewInt(int64(p.Y)), big.NewInt(int64(q.X))))
	}
	return int(sum.And(sum, new(big.Int).SetUint64(math.MaxUint64)).Uint64())
}

func TestArea2OfManyLists(t *testing.T) { // P6.2
	r := rand.New(rand.NewSource(2))
	for range 3000 {
		l := sample.RandomList(r, r.Intn(60), 1<<r.Intn(62))
		if got, want := ring.Area2(l), bigArea2(l); got != want {
			t.Fatalf("Area2(%v) = %d, want %d", l, got, want)
		}
	}
}

func checkOrientation(t *testing.T, l []api.Point) {
	t.Helper()
	area := ring.Area2(l)
	if area == 0 {
		t.Fatalf("Area2(%v) = 0", l)
	}
	for i := range l {
		if got := ring.Area2(from(l, i)); got != area {
			t.Fatalf("Area2(%v) = %d, but %d from point %d on", l, area, got, i)
		}
		if got := ring.Area2(reversed(from(l, i))); got != -area {
			t.Fatalf("Area2(%v) = %d, but %d in the other direction, from point %d on", l, area, got, i)
		}
	}
	// At the lowest of the leftmost points a ring turns as it does as a whole.
	low := 0
	for i, p := range l {
		if p.X < l[low].X || p.X == l[low].X && p.Y < l[low].Y {
			low = i
		}
	}
	before, after := l[(low+len(l)-1)%len(l)], l[(low+1)%len(l)]
	if turn := point.Side(before, l[low], after); (turn > 0) != (area > 0) {
		t.Fatalf("Area2(%v) = %d, but the turn at %v is %d", l, area, l[low], turn)
	}
}

func TestArea2OfRings(t *testing.T) { // P6.6
	check := func(l []api.Point) {
		if wantCheck(l) == api.OK {
			checkOrientation(t, l)
		}
	}
	everyList(grid(4), 3, check)
	everyList(grid(3), 4, check)
	everyList(grid(3), 5, check)
	randomRings(3, func(r *rand.Rand, l []api.Point, limit int) { check(l) })
	check(example())
	check(square())
	check(comb(39))
}

func TestRayExamples(t *testing.T) { // P6.3
	for _, c := range []struct {
		a, b, p api.Point
		want    int
	}{
		{pt(0, 0), pt(0, 4), pt(1, 0), 1},
		{pt(0, 4), pt(0, 0), pt(1, 0), -1},
		{pt(0, 0), pt(0, 4), pt(1, 4), 0}, // as high as the upper end
		{pt(0, 4), pt(0, 0), pt(1, 4), 0},
		{pt(0, 0), pt(0, 4), pt(0, 2), 0}, // on the segment
		{pt(0, 4), pt(0, 0), pt(0, 2), 0},
		{pt(0, 0), pt(0, 4), pt(1, 3), 1},
		{pt(0, 4), pt(0, 0), pt(1, 3), -1},
		{pt(0, 0), pt(0, 4), pt(1, 5), 0}, // higher
		{pt(0, 4), pt(0, 0), pt(1, 5), 0},
		{pt(0, 0), pt(0, 4), pt(1, -1), 0}, // lower
		{pt(0, 4), pt(0, 0), pt(1, -1), 0},
		{pt(0, 0), pt(0, 4), pt(-1, 2), 0}, // to the left of it
		{pt(0, 4), pt(0, 0), pt(-1, 2), 0},
		{pt(0, 0), pt(0, 4), pt(0, 0), 0}, // at a corner
		{pt(0, 0), pt(0, 4), pt(0, 4), 0},
		{pt(0, 4), pt(0, 0), pt(0, 0), 0},
		{pt(0, 0), pt(4, 0), pt(5, 0), 0}, // level
		{pt(4, 0), pt(0, 0), pt(5, 0), 0},
		{pt(0, 0), pt(4, 0), pt(2, 0), 0},
		{pt(0, 0), pt(4, 0), pt(-2, 0), 0},
		{pt(0, 0), pt(4, 0), pt(5, 1), 0},
		{pt(2, 2), pt(2, 2), pt(5, 2), 0}, // one point
		{pt(0, 0), pt(4, 2), pt(2, 1), 0}, // slanting
		{pt(0, 0), pt(4, 2), pt(3, 1), 1},
		{pt(0, 0), pt(4, 2), pt(1, 1), 0},
		{pt(4, 2), pt(0, 0), pt(3, 1), -1},
		{pt(0, 0), pt(-4, 2), pt(-1, 1), 1},
		{pt(0, 0), pt(-4, 2), pt(-3, 1), 0},
		{pt(-bound, -bound), pt(bound, bound), pt(1, 0), 1}, // the greatest bounded ones
		{pt(-bound, -bound), pt(bound, bound), pt(0, 0), 0},
		{pt(-bound, -bound), pt(bound, bound), pt(0, 1), 0},
		{pt(bound, bound), pt(-bound, -bound), pt(1, 0), -1},
		{pt(-bound, -bound), pt(bound, bound-1), pt(0, 0), 0},
		{pt(-bound, -bound), pt(bound, bound-1), pt(0, -1), 1},
	} {
		if got := ring.Ray(c.a, c.b, c.p); got != c.want {
			t.Errorf("Ray(%v, %v, %v) = %d, want %d", c.a, c.b, c.p, got, c.want)
		}
	}
}

func checkRay(t *testing.T, a, b, p api.Point) {
	t.Helper()
	want := wantRay(endOf(point.SpotOf(a)), endOf(point.SpotOf(b)), p)
	if got := ring.Ray(a, b, p); got != want {
		t.Fatalf("Ray(%v, %v, %v) = %d, want %d", a, b, p, got, want)
	}
}

func TestRayOfManyPoints(t *testing.T) { // P6.3
	everyList(grid(5), 3, func(l []api.Point) { checkRay(t, l[0], l[1], l[2]) })
	corners := pts(-bound, -bound, bound, -bound, bound, bound, -bound, bound, bound-1, bound, 1-bound, -bound, 0, 1, 0, 0, 1, 0, bound, 0, 0, -bound)
	everyList(corners, 3, func(l []api.Point) { checkRay(t, l[0], l[1], l[2]) })
	r := rand.New(rand.NewSource(4))
	for range 20000 {
		limit := bound >> r.Intn(60)
		checkRay(t, sample.RandomPoint(r, limit), sample.RandomPoint(r, limit), sample.RandomPoint(r, limit))
	}
}

func TestRayOfPointsThatAreNotBounded(t *testing.T) { // P6.3, P1
	for _, n := range []int{bound + 1, -bound - 1, 1 << 62, -1 << 62, most, least} {
		for _, c := range [][3]api.Point{
			{pt(0, 0), pt(0, 4), pt(n, 2)},
			{pt(n, 0), pt(0, 4), pt(5, 2)},
			{pt(0, 0), pt(n, 4), pt(5, 2)},
			{pt(0, n), pt(0, 4), pt(5, 2)},
			{pt(0, 0), pt(0, n), pt(5, 2)},
			{pt(0, 0), pt(0, 4), pt(5, n)},
			{pt(0, least), pt(0, most), pt(5, n)},
			{pt(n, n), pt(n, -n), pt(n, 0)},
		} {
			if got := ring.Ray(c[0], c[1], c[2]) + ring.Ray(c[1], c[0], c[2]); got != 0 {
				t.Errorf("Ray of %v and back: %d", c, got)
			}
			if got := ring.Ray(c[0], c[1], c[2]); got != 0 {
				t.Errorf("Ray of %v = %d", c, got)
			}
		}
	}
}

func TestRaySpotExamples(t *testing.T) { // P6.4
	for _, c := range []struct {
		a, b api.Spot
		p    api.Point
		want int
	}{
		{spot(1, 0, 2), spot(1, 8, 2), pt(1, 2), 1},
		{spot(1, 0, 2), spot(1, 8, 2), pt(0, 2), 0},
		{spot(1, 8, 2), spot(1, 0, 2), pt(1, 2), -1},
		{spot(1, 8, 2), spot(1, 0, 2), pt(0, 2), 0},
		{spot(1, 4, 2), spot(1, 8, 2), pt(1, 2), 1},      // as high as the lower end
		{spot(1, 5, 2), spot(1, 8, 2), pt(1, 2), 0},      // a little lower than it
		{spot(1, 3, 2), spot(1, 8, 2), pt(1, 2), 1},      // a little higher than it
		{spot(1, 0, 2), spot(1, 4, 2), pt(1, 2), 0},      // as high as the upper end
		{spot(1, 0, 2), spot(1, 5, 2), pt(1, 2), 1},      // a little lower than it
		{spot(1, 0, 2), spot(1, 3, 2), pt(1, 2), 0},      // a little higher than it
		{spot(1, 4, 2), spot(5, 4, 2), pt(9, 2), 0},      // level
		{spot(1, 4, 2), spot(5, 6, 3), pt(9, 2), 0},      // level, in other numbers
		{spot(1, 5, 2), spot(5, 5, 2), pt(9, 2), 0},      // level, between two points
		{spot(2, 0, 2), spot(2, 8, 2), pt(1, 2), 0},      // on the segment
		{spot(3, 0, 2), spot(1, 8, 2), pt(1, 2), 0},      // on a slanting one
		{spot(3, 0, 2), spot(0, 8, 2), pt(1, 2), 1},      // a little to the right of it
		{spot(5, 0, 3), spot(5, 12, 7), pt(1, 1), 0},     // different D: at 10/9
		{spot(4, 0, 3), spot(5, 12, 7), pt(1, 1), 1},     // at 35/36
		{spot(-1, -3, 2), spot(-1, -1, 2), pt(0, -1), 1}, // negative
		{spot(-1, -1, 2), spot(-1, -3, 2), pt(0, -1), -1},
		{spot(-1, -1, 2), spot(-1, -3, 2), pt(-1, -1), 0},
		{spot(0, -1, 2), spot(0, 1, 2), pt(1, 0), 1},
		{spot(0, 1, 2), spot(0, 1, 2), pt(1, 0), 0},                                   // one spot
		{spot(-spotBound, -spotBound, 1), spot(spotBound, spotBound, 1), pt(1, 0), 1}, // the greatest bounded ones
		{spot(-spotBound, -spotBound, 1), spot(spotBound, spotBound, 1), pt(0, 0), 0},
		{spot(-spotBound, -spotBound, spotBoundD), spot(spotBound, spotBound, spotBoundD), pt(1, 0), 1},
		{spot(-spotBound, -spotBound, spotBoundD), spot(spotBound-1, spotBound, spotBoundD), pt(0, 0), 1},
		{spot(-spotBound, -spotBound, spotBoundD), spot(spotBound, spotBound-1, spotBoundD), pt(0, 0), 0},
		{spot(0, 0, spotBoundD), spot(0, 1, spotBoundD), pt(1, 0), 1},
		{spot(0, 0, spotBoundD), spot(0, 1, spotBoundD), pt(spotBound, 0), 1},
	} {
		if got := ring.RaySpot(c.a, c.b, c.p); got != c.want {
			t.Errorf("RaySpot(%v, %v, %v) = %d, want %d", c.a, c.b, c.p, got, c.want)
		}
	}
}

func TestRaySpotOfInvalidSpots(t *testing.T) { // P6.4, P1
	low, high := spot(0, -4, 1), spot(0, 4, 1)
	p := pt(5, 0)
	if ring.RaySpot(low, high, p) != 1 {
		t.Fatal("the segment doesn't pass")
	}
	for _, d := range []int{0, -1, -2, least, least + 1, spotBoundD + 1, most} {
		for _, x := range []int{0, 4, -4, least, most} {
			for _, y := range []int{0, 4, -4, least, most} {
				s := spot(x, y, d)
				for _, other := range []api.Spot{low, high, s, spot(0, 0, 1)} {
					if ring.RaySpot(s, other, p) != 0 || ring.RaySpot(other, s, p) != 0 {
						t.Errorf("RaySpot of %v, %v and %v: %d, %d", s, other, p, ring.RaySpot(s, other, p), ring.RaySpot(other, s, p))
					}
				}
			}
		}
	}
	for _, n := range []int{spotBound + 1, -spotBound - 1, most, least} {
		for _, s := range []api.Spot{spot(n, -4, 1), spot(n, 4, 1), spot(0, n, 1), spot(n, n, 1), spot(n, n, spotBoundD)} {
			if ring.RaySpot(s, high, p) != 0 || ring.RaySpot(s, low, p) != 0 || ring.RaySpot(high, s, p) != 0 || ring.RaySpot(low, s, p) != 0 {
				t.Errorf("RaySpot of %v isn't 0", s)
			}
		}
		for _, q := range pts(n, 0, 5, n, n, n) {
			if ring.RaySpot(low, high, q) != 0 || ring.RaySpot(high, low, q) != 0 {
				t.Errorf("RaySpot of %v isn't 0", q)
			}
		}
	}
}

func randomSpot(r *rand.Rand, limit, limitD int) api.Spot {
	return spot(r.Intn(2*limit+1)-limit, r.Intn(2*limit+1)-limit, 1+r.Intn(limitD))
}

func TestRaySpotOfManySpots(t *testing.T) { // P6.4
	r := rand.New(rand.NewSource(5))
	passed := 0
	for range 60000 {
		limit, limitD := spotBound>>r.Intn(38), spotBoundD>>r.Intn(23)
		a, b := randomSpot(r, limit, limitD), randomSpot(r, limit, limitD)
		p := sample.RandomPoint(r, min(1+2*limit/limitD, spotBound))
		want := wantRay(endOf(a), endOf(b), p)
		if got := ring.RaySpot(a, b, p); got != want {
			t.Fatalf("RaySpot(%v, %v, %v) = %d, want %d", a, b, p, got, want)
		}
		passed += want * want
	}
	if passed < 1000 {
		t.Errorf("only %d segments pass", passed)
	}
}

func TestRaySpotOfPoints(t *testing.T) { // P6.9
	everyList(grid(4), 3, func(l []api.Point) {
		a, b, p := l[0], l[1], l[2]
		if got, want := ring.RaySpot(point.SpotOf(a), point.SpotOf(b), p), ring.Ray(a, b, p); got != want {
			t.Fatalf("RaySpot(%v, %v, %v) = %d, and Ray %d", a, b, p, got, want)
		}
	})
	r := rand.New(rand.NewSource(6))
	for range 10000 {
		limit := spotBound >> r.Intn(38)
		a, b, p := sample.RandomPoint(r, limit), sample.RandomPoint(r, limit), sample.RandomPoint(r, limit)
		if got, want := ring.RaySpot(point.SpotOf(a), point.SpotOf(b), p), ring.Ray(a, b, p); got != want {
			t.Fatalf("RaySpot(%v, %v, %v) = %d, and Ray %d", a, b, p, got, want)
		}
	}
}

func multiplied(s api.Spot, n int) api.Spot {
	return spot(s.X*n, s.Y*n, s.D*n)
}

func TestRaySpotInOtherNumbers(t *testing.T) { // P6.9
	r := rand.New(rand.NewSource(7))
	for range 20000 {
		a, b, p := randomSpot(r, 9, 3), randomSpot(r, 9, 3), sample.RandomPoint(r, 6)
		want := ring.RaySpot(a, b, p)
		n, m := 1+r.Intn(1<<r.Intn(20)), 1+r.Intn(1<<r.Intn(20))
		if got := ring.RaySpot(multiplied(a, n), multiplied(b, m), p); got != want {
			t.Fatalf("RaySpot(%v, %v, %v) = %d, but %d times %d and %d", a, b, p, want, got, n, m)
		}
	}
}

func checkInside(t *testing.T, l []api.Point, p api.Point, want int) {
	t.Helper()
	before := slices.Clone(l)
	if got := ring.Inside(l, p); got != want {
		t.Fatalf("Inside(%v, %v) = %d, want %d", l, p, got, want)
	}
	if !slices.Equal(l, before) { // R3
		t.Fatalf("Inside changes %v into %v", before, l)
	}
}

func TestInsideExamples(t *testing.T) { // P6.5
	step := pts(0, 0, 6, 0, 6, 3, 4, 3, 4, 6, 2, 6, 2, 3, 0, 3)
	for _, c := range []struct {
		l    []api.Point
		p    api.Point
		want int
	}{
		{example(), pt(1, 1), 1},
		{example(), pt(2, 1), 0}, // a corner
		{example(), pt(2, 2), -1},
		{example(), pt(4, 2), 0}, // on a segment
		{example(), pt(5, 2), -1},
		{example(), pt(0, 0), 0},
		{example(), pt(0, 2), 0}, // on the last segment
		{example(), pt(0, 4), 0},
		{example(), pt(1, 2), 1},
		{example(), pt(2, 4), -1},  // as high as two corners, between them
		{example(), pt(5, 4), -1},  // to their right
		{example(), pt(-1, 4), -1}, // to their left
		{example(), pt(-1, 0), -1}, // as high as a level segment
		{example(), pt(5, 0), -1},
		{example(), pt(3, 1), 1}, // as high as the corner between both parts
		{example(), pt(-1, 1), -1},
		{example(), pt(5, 1), -1},
		{step, pt(1, 3), 0}, // on a level segment
		{step, pt(3, 3), 1}, // between two level segments
		{step, pt(5, 3), 0},
		{step, pt(7, 3), -1},
		{step, pt(-1, 3), -1},
		{step, pt(3, 5), 1},
		{step, pt(1, 4), -1},
		{step, pt(5, 4), -1},
		{step, pt(3, 6), 0},
		{step, pt(1, 6), -1},
		{step, pt(3, 7), -1},
		{pts(0, 0, 2, 2, 0, 4, -2, 2), pt(0, 2), 1}, // as high as the corners on both sides
		{pts(0, 0, 2, 2, 0, 4, -2, 2), pt(1, 2), 1},
		{pts(0, 0, 2, 2, 0, 4, -2, 2), pt(3, 2), -1},
		{pts(0, 0, 2, 2, 0, 4, -2, 2), pt(-3, 2), -1},
		{pts(0, 0, 2, 2, 0, 4, -2, 2), pt(1, 4), -1},
		{pts(0, 0, 2, 2, 0, 4, -2, 2), pt(1, 0), -1},
		{square(), pt(0, 0), 1},
		{square(), pt(far-1, far-1), 1},
		{square(), pt(far, far-1), 0},
		{square(), pt(far, far), 0},
		{square(), pt(far+1, far), -1},
		{square(), pt(1-far, -far), 0},
	} {
		for i := range c.l {
			checkInside(t, from(c.l, i), c.p, c.want)
			checkInside(t, reversed(from(c.l, i)), c.p, c.want)
		}
	}
}

func TestInsideOfWhatIsNotValid(t *testing.T) { // P6.5
	for _, l := range [][]api.Point{
		nil,
		{},
		pts(0, 0),
		pts(0, 0, 4, 4),
		pts(0, 0, 4, 4, 0, 0),
		pts(0, 0, 2, 2, 4, 4),
		pts(0, 0, 4, 4, 4, 0, 0, 4),
		pts(0, 0, 4, 0, 4, 4, 0, 4, 0, 0),
		append(example(), pt(0, 0)),
		append(example(), pt(0, 4)),
		append(example(), pt(far+1, 5)),
		append(comb(39), pt(5, 2)),
		comb(40),
	} {
		for _, p := range around(-1, 5) {
			checkInside(t, l, p, -1)
		}
	}
	for _, p := range wrongPoints() {
		checkInside(t, []api.Point{pt(0, 0), pt(4, 0), p}, pt(2, 0), -1)
		checkInside(t, []api.Point{pt(0, 0), pt(4, 0), p}, pt(2, 1), -1)
		checkInside(t, []api.Point{p, p, p}, p, -1)
		checkInside(t, example(), p, -1)
		checkInside(t, square(), p, -1)
	}
}

func TestInsideOfAllSmallRings(t *testing.T) { // P6.5
	check := func(l []api.Point) {
		if wantCheck(l) != api.OK {
			return
		}
		for _, p := range around(-1, 3) {
			checkInside(t, l, p, wantInside(l, p))
		}
	}
	everyList(grid(3), 3, check)
	everyList(grid(3), 4, check)
	everyList(grid(3), 5, check)
}

// nearPoint draws a point of the ring, one near it, one between two of them, or any one.
func nearPoint(r *rand.Rand, l []api.Point, limit int) api.Point {
	p, q := l[r.Intn(len(l))], l[r.Intn(len(l))]
	switch r.Intn(5) {
	case 0:
		return p
	case 1:
		return point.Add(p, sample.RandomPoint(r, 2))
	case 2:
		return pt((p.X+q.X)/2, (p.Y+q.Y)/2)
	case 3:
		return pt(q.X, p.Y) // as high as a corner
	}
	return sample.RandomPoint(r, limit+1)
}

func TestInsideOfManyRings(t *testing.T) { // P6.5
	count := map[int]int{}
	randomRings(8, func(r *rand.Rand, l []api.Point, limit int) {
		for range 10 {
			p, want := nearPoint(r, l, limit), -1
			if wantCheck(l) == api.OK {
				want = wantInside(l, p)
				count[want]++
			}
			checkInside(t, l, p, want)
		}
	})
	if count[-1] < 1000 || count[0] < 1000 || count[1] < 1000 {
		t.Errorf("outside, on and in rings: %v", count)
	}
}

func sign(n int) int {
	return exact.Sign2(n, 1, 0, 0)
}

func TestSumOfRays(t *testing.T) { // P6.7
	check := func(l []api.Point, p api.Point) {
		inside := ring.Inside(l, p)
		if ring.Check(l) != api.OK || inside == 0 {
			return
		}
		want := 0
		if inside == 1 {
			want = -sign(ring.Area2(l))
		}
		sum := 0
		for i, a := range l {
			sum += ring.Ray(a, l[(i+1)%len(l)], p)
		}
		if sum != want {
			t.Fatalf("the sum of Ray of %v and %v is %d, want %d", l, p, sum, want)
		}
	}
	for _, p := range around(-1, 5) {
		check(example(), p)
		check(reversed(example()), p)
	}
	everyList(grid(3), 4, func(l []api.Point) {
		for _, p := range grid(3) {
			check(l, p)
		}
	})
	randomRings(9, func(r *rand.Rand, l []api.Point, limit int) {
		for range 4 {
			check(l, nearPoint(r, l, limit))
		}
	})
}

func TestMovedAndTurned(t *testing.T) { // P6.7
	check := func(l []api.Point, p api.Point, n int, d api.Point) {
		m, q := changed(l, n, d), changed([]api.Point{p}, n, d)[0]
		if got, want := ring.Check(m), ring.Check(l); got != want {
			t.Fatalf("Check of %v is %v, and %v of %v", l, want, got, m)
		}
		if got, want := ring.Inside(m, q), ring.Inside(l, p); got != want {
			t.Fatalf("Inside of %v and %v is %d, and %d of %v and %v", l, p, want, got, m, q)
		}
	}
	for n := range 4 {
		for _, p := range around(-1, 5) {
			check(example(), p, n, pt(1000, -77))
			check(example(), p, n, pt(far-4, far-4))
			check(example(), p, n, pt(4-far, 4-far))
		}
	}
	randomRings(10, func(r *rand.Rand, l []api.Point, limit int) {
		if limit < far {
			for range 3 {
				check(l, nearPoint(r, l, limit), r.Intn(4), sample.RandomPoint(r, far-limit))
			}
		}
	})
}

// pick counts the points in the ring, and those on it.
func pick(l []api.Point) (in, on int) {
	box := point.Box(l)
	for x := box.X0 - 1; x <= box.X1+1; x++ {
		for y := box.Y0 - 1; y <= box.Y1+1; y++ {
			switch ring.Inside(l, pt(x, y)) {
			case 1:
				in++
			case 0:
				on++
			}
		}
	}
	return in, on
}

func checkPick(t *testing.T, l []api.Point) {
	t.Helper()
	if ring.Check(l) != api.OK {
		return
	}
	in, on := pick(l)
	area := ring.Area2(l)
	if area*sign(area) != 2*in+on-2 {
		t.Fatalf("Area2(%v) = %d, with %d points in it and %d on it", l, area, in, on)
	}
}

func TestTheoremOfPick(t *testing.T) { // P6.8
	checkPick(t, example())
	checkPick(t, comb(39))
	checkPick(t, reversed(comb(39)))
	everyList(grid(4), 3, func(l []api.Point) { checkPick(t, l) })
	everyList(grid(3), 4, func(l []api.Point) { checkPick(t, l) })
	randomRings(11, func(r *rand.Rand, l []api.Point, limit int) {
		if limit <= 5 || limit == 40 && r.Intn(50) == 0 {
			checkPick(t, l)
		}
	})
}

func TestLargeArguments(t *testing.T) { // P1
	l := comb(100000)
	checkCheck(t, l, api.ErrMany)
	checkInside(t, l, pt(50, 2), -1)
	want := 0
	for i, p := range l {
		want += point.Cross(p, l[(i+1)%len(l)])
	}
	if got := ring.Area2(l); got != want || got <= 0 {
		t.Errorf("Area2 of 100000 points = %d, want %d", got, want)
	}
}
