package point_test

import (
	"math"
	"math/big"
	"math/rand"
	"slices"
	"testing"

	"hachure/api"
	"hachure/point"
)

const (
	least = math.MinInt
	most  = math.MaxInt
	// far is the greatest coordinate of bounded points.
	far = 1 << 60
	// farSpot is the greatest numerator of bounded spots, and farSpotD their greatest D.
	farSpot  = 1 << 37
	farSpotD = 1 << 22
)

// unbounded are coordinates beyond those of bounded points.
var unbounded = []int{far + 1, -far - 1, 1 << 61, 1 << 62, -1 << 62, most, least}

func pt(x, y int) api.Point {
	return api.Point{X: x, Y: y}
}

func spot(x, y, d int) api.Spot {
	return api.Spot{X: x, Y: y, D: d}
}

func ratio(n, d int) api.Ratio {
	return api.Ratio{N: n, D: d}
}

// grid returns all points with coordinates from 0 to n - 1.
func grid(n int) []api.Point {
	var l []api.Point
	for x := range n {
		for y := range n {
			l = append(l, pt(x, y))
		}
	}
	return l
}

// extremes returns points around every bound at which arithmetic of words could go wrong.
func extremes() []api.Point {
	var l []api.Point
	numbers := append([]int{-far, 1 - far, -1, 0, 1, far - 1, far, api.MaxCoord, -api.MaxCoord - 1}, unbounded...)
	for _, x := range numbers {
		for _, y := range numbers {
			l = append(l, pt(x, y))
		}
	}
	return l
}

// boundedExtremes returns bounded points far away, and their neighbours.
func boundedExtremes() []api.Point {
	return slices.DeleteFunc(extremes(), func(p api.Point) bool {
		return p.X < -far || p.X > far || p.Y < -far || p.Y > far
	})
}

// vector is a point with coordinates that have no bounds, and need not be whole.
type vector struct{ x, y *big.Rat }

func exactly(s api.Spot) vector {
	return vector{big.NewRat(int64(s.X), int64(s.D)), big.NewRat(int64(s.Y), int64(s.D))}
}

func whole(p api.Point) vector {
	return exactly(spot(p.X, p.Y, 1))
}

func (v vector) minus(w vector) vector {
	return vector{new(big.Rat).Sub(v.x, w.x), new(big.Rat).Sub(v.y, w.y)}
}

func (v vector) plus(w vector) vector {
	return vector{new(big.Rat).Add(v.x, w.x), new(big.Rat).Add(v.y, w.y)}
}

func (v vector) times(f *big.Rat) vector {
	return vector{new(big.Rat).Mul(v.x, f), new(big.Rat).Mul(v.y, f)}
}

func (v vector) cross(w vector) *big.Rat {
	return new(big.Rat).Sub(new(big.Rat).Mul(v.x, w.y), new(big.Rat).Mul(v.y, w.x))
}

func (v vector) equal(w vector) bool {
	return v.x.Cmp(w.x) == 0 && v.y.Cmp(w.y) == 0
}

func sideOf(a, b, p vector) int {
	return b.minus(a).cross(p.minus(a)).Sign()
}

// along returns the f with a + f (b - a) = p; nil if there is none. a isn't b.
func along(a, b, p vector) *big.Rat {
	u, v := b.minus(a), p.minus(a)
	if u.cross(v).Sign() != 0 {
		return nil
	}
	if u.x.Sign() != 0 {
		return new(big.Rat).Quo(v.x, u.x)
	}
	return new(big.Rat).Quo(v.y, u.y)
}

func fraction(f *big.Rat) bool {
	return f != nil && f.Sign() >= 0 && f.Cmp(big.NewRat(1, 1)) <= 0
}

func onSegment(a, b, p vector) bool {
	if a.equal(b) {
		return a.equal(p)
	}
	return fraction(along(a, b, p))
}

func count(b bool) int {
	if b {
		return 1
	}
	return 0
}

// meetOf solves a + f (b - a) = c + g (d - c).
func meetOf(a, b, c, d vector) int {
	if a.equal(b) {
		return count(onSegment(c, d, a))
	}
	if c.equal(d) {
		return count(onSegment(a, b, c))
	}
	u, v, w := b.minus(a), d.minus(c), c.minus(a)
	if k := u.cross(v); k.Sign() != 0 {
		f, g := new(big.Rat).Quo(w.cross(v), k), new(big.Rat).Quo(w.cross(u), k)
		return count(fraction(f) && fraction(g))
	}
	return commonPart(along(a, b, c), along(a, b, d))
}

// commonPart returns how many numbers from 0 to 1 are between f and g, or are one of them.
func commonPart(f, g *big.Rat) int {
	if f == nil || g == nil {
		return 0
	}
	low, high := new(big.Rat), big.NewRat(1, 1)
	if f.Cmp(g) > 0 {
		f, g = g, f
	}
	if f.Cmp(low) > 0 {
		low = f
	}
	if g.Cmp(high) < 0 {
		high = g
	}
	return 1 - low.Cmp(high)
}

// moveOf returns a plus f times b less a, in lowest terms.
func moveOf(a, b api.Spot, f api.Ratio) api.Spot {
	v := exactly(b).minus(exactly(a)).times(big.NewRat(int64(f.N), int64(f.D))).plus(exactly(a))
	d := lcm(v.x.Denom(), v.y.Denom())
	v = v.times(new(big.Rat).SetInt(d))
	return spot(int(v.x.Num().Int64()), int(v.y.Num().Int64()), int(d.Int64()))
}

func lcm(a, b *big.Int) *big.Int {
	g := new(big.Int).GCD(nil, nil, a, b)
	return new(big.Int).Mul(new(big.Int).Quo(a, g), b)
}

// between draws a number from low to high, with a few more near both.
func between(r *rand.Rand, low, high int) int {
	switch r.Intn(8) {
	case 0:
		return low + r.Intn(min(3, high-low+1))
	case 1:
		return high - r.Intn(min(3, high-low+1))
	}
	return low + r.Intn(high-low+1)
}

func randomPoint(r *rand.Rand, limit int) api.Point {
	return pt(between(r, -limit, limit), between(r, -limit, limit))
}

// randomRight draws a right spot.
func randomRight(r *rand.Rand) api.Spot {
	d := between(r, 1, 2048)
	return spot(between(r, -16384*d, 16384*d), between(r, -16384*d, 16384*d), d)
}

// randomBounded draws a bounded spot, near or far away.
func randomBounded(r *rand.Rand) api.Spot {
	limit := farSpot >> r.Intn(38)
	return spot(between(r, -limit, limit), between(r, -limit, limit), between(r, 1, farSpotD))
}

func TestRight(t *testing.T) { // P4.1
	for _, n := range []int{0, 1, -1, 16383, 16384, -16384, -16383} {
		for _, m := range []int{0, 16384, -16384} {
			if !point.Right(pt(n, m)) || !point.Right(pt(m, n)) {
				t.Errorf("%d and %d aren't right", n, m)
			}
		}
		for _, m := range append([]int{16385, -16385, 1 << 20, far}, unbounded...) {
			if point.Right(pt(n, m)) || point.Right(pt(m, n)) || point.Right(pt(m, m)) {
				t.Errorf("%d and %d are right", n, m)
			}
		}
	}
}

func TestAddAndSub(t *testing.T) { // P4.1
	for _, c := range []struct{ a, b, sum, difference api.Point }{
		{pt(3, 1), pt(10, -20), pt(13, -19), pt(-7, 21)},
		{pt(0, 0), pt(5, 7), pt(5, 7), pt(-5, -7)},
		{pt(5, 7), pt(0, 0), pt(5, 7), pt(5, 7)},
		{pt(most, least), pt(1, -1), pt(least, most), pt(most-1, least+1)},
		{pt(least, most), pt(1, -1), pt(least+1, most-1), pt(most, least)},
		{pt(least, least), pt(least, most), pt(0, -1), pt(0, 1)},
		{pt(0, -1), pt(least, least), pt(least, most), pt(least, most)},
	} {
		if got := point.Add(c.a, c.b); got != c.sum {
			t.Errorf("Add(%v, %v) = %v, want %v", c.a, c.b, got, c.sum)
		}
		if got := point.Sub(c.a, c.b); got != c.difference {
			t.Errorf("Sub(%v, %v) = %v, want %v", c.a, c.b, got, c.difference)
		}
	}
}

// wrapped returns a b + c d as numbers without bounds, of which the lowest 64 bits are left.
func wrapped(a, b, c, d int) int {
	p := new(big.Int).Mul(big.NewInt(int64(a)), big.NewInt(int64(b)))
	p.Add(p, new(big.Int).Mul(big.NewInt(int64(c)), big.NewInt(int64(d))))
	return int(p.And(p, new(big.Int).SetUint64(math.MaxUint64)).Uint64())
}

func TestCrossAndDot(t *testing.T) { // P4.1
	for _, c := range []struct {
		a, b       api.Point
		cross, dot int
	}{
		{pt(2, 3), pt(5, 7), -1, 31},
		{pt(5, 7), pt(2, 3), 1, 31},
		{pt(1, 0), pt(0, 1), 1, 0},
		{pt(-4, 2), pt(6, 11), -56, -2},
		{pt(9, 4), pt(0, 0), 0, 0},
		{pt(1<<40, 1), pt(-1<<24, 1<<23), least + 1<<24, 1 << 23},
		{pt(1<<32, 1<<31), pt(1<<32, 1<<32), least, least},
		{pt(least, 0), pt(-1, -1), least, least},
		{pt(0, least), pt(3, 5), least, least},
	} {
		if got := point.Cross(c.a, c.b); got != c.cross {
			t.Errorf("Cross(%v, %v) = %d, want %d", c.a, c.b, got, c.cross)
		}
		if got := point.Dot(c.a, c.b); got != c.dot {
			t.Errorf("Dot(%v, %v) = %d, want %d", c.a, c.b, got, c.dot)
		}
	}
}

func TestCrossAndDotOfExtremes(t *testing.T) { // P4.1
	l := extremes()
	for _, a := range l {
		for _, b := range l {
			if got, want := point.Cross(a, b), wrapped(a.X, b.Y, -a.Y, b.X); got != want {
				t.Fatalf("Cross(%v, %v) = %d, want %d", a, b, got, want)
			}
			if got, want := point.Dot(a, b), wrapped(a.X, b.X, a.Y, b.Y); got != want {
				t.Fatalf("Dot(%v, %v) = %d, want %d", a, b, got, want)
			}
		}
	}
}

func TestTurn(t *testing.T) { // P4.2
	for _, c := range []struct {
		p    api.Point
		n    int
		want api.Point
	}{
		{pt(3, 1), 1, pt(-1, 3)},
		{pt(3, 1), -1, pt(1, -3)},
		{pt(3, 1), 6, pt(-3, -1)},
		{pt(3, 1), 0, pt(3, 1)},
		{pt(3, 1), 2, pt(-3, -1)},
		{pt(3, 1), 3, pt(1, -3)},
		{pt(3, 1), 4, pt(3, 1)},
		{pt(3, 1), -2, pt(-3, -1)},
		{pt(3, 1), -3, pt(-1, 3)},
		{pt(3, 1), -4, pt(3, 1)},
		{pt(3, 1), -5, pt(1, -3)},
		{pt(3, 1), most, pt(1, -3)},
		{pt(3, 1), most - 1, pt(-3, -1)},
		{pt(3, 1), least, pt(3, 1)},
		{pt(3, 1), least + 1, pt(-1, 3)},
		{pt(0, 0), 5, pt(0, 0)},
		{pt(least, most), 1, pt(least+1, least)},
		{pt(least, most), 2, pt(least, least+1)},
		{pt(least, most), 3, pt(most, least)},
	} {
		if got := point.Turn(c.p, c.n); got != c.want {
			t.Errorf("Turn(%v, %d) = %v, want %v", c.p, c.n, got, c.want)
		}
	}
}

func TestSideExamples(t *testing.T) { // P4.3
	for _, c := range []struct {
		a, b, p api.Point
		want    int
	}{
		{pt(0, 0), pt(4, 2), pt(1, 1), 1},
		{pt(0, 0), pt(4, 2), pt(2, 1), 0},
		{pt(0, 0), pt(4, 2), pt(9, 0), -1},
		{pt(0, 0), pt(4, 2), pt(6, 3), 0},
		{pt(0, 0), pt(4, 2), pt(-2, -1), 0},
		{pt(0, 0), pt(4, 2), pt(0, 0), 0},
		{pt(0, 0), pt(4, 2), pt(4, 2), 0},
		{pt(0, 0), pt(4, 2), pt(-9, 0), 1},
		{pt(7, 7), pt(7, 7), pt(1, 2), 0},
		{pt(7, 7), pt(7, 7), pt(7, 7), 0},
		{pt(5, 1), pt(5, 9), pt(4, 20), 1},
		{pt(5, 1), pt(5, 9), pt(6, -20), -1},
		{pt(5, 1), pt(5, 9), pt(5, 20), 0},
		{pt(-far, -far), pt(far, far), pt(far-1, far), 1},
		{pt(-far, -far), pt(far, far), pt(far, far-1), -1},
		{pt(-far, -far), pt(far, far), pt(1, 1), 0},
		{pt(-far, -far), pt(far, far-1), pt(0, -1), -1},
		{pt(-far, -far), pt(far, far-1), pt(0, 0), 1},
		{pt(far, -far), pt(far, -far), pt(0, 0), 0},
	} {
		if got := point.Side(c.a, c.b, c.p); got != c.want {
			t.Errorf("Side(%v, %v, %v) = %d, want %d", c.a, c.b, c.p, got, c.want)
		}
	}
}

func checkSide(t *testing.T, a, b, p api.Point) {
	t.Helper()
	if got, want := point.Side(a, b, p), sideOf(whole(a), whole(b), whole(p)); got != want {
		t.Fatalf("Side(%v, %v, %v) = %d, want %d", a, b, p, got, want)
	}
}

func TestSideOfManyPoints(t *testing.T) { // P4.3
	l := grid(4)
	for _, a := range l {
		for _, b := range l {
			for _, p := range l {
				checkSide(t, a, b, p)
			}
		}
	}
	r := rand.New(rand.NewSource(1))
	for range 20000 {
		limit := far >> r.Intn(60)
		checkSide(t, randomPoint(r, limit), randomPoint(r, limit), randomPoint(r, limit))
	}
	l = boundedExtremes()
	for range 20000 {
		checkSide(t, l[r.Intn(len(l))], l[r.Intn(len(l))], l[r.Intn(len(l))])
	}
}

// notBounded returns points of which one coordinate, or both, are just, or far, beyond the bounds.
func notBounded() []api.Point {
	var l []api.Point
	for _, n := range unbounded {
		l = append(l, pt(n, 3), pt(3, n), pt(n, n), pt(n, far))
	}
	return l
}

func TestOfPointsThatAreNotBounded(t *testing.T) { // P4.3, P4.4
	for _, p := range notBounded() {
		for _, l := range [][]api.Point{{p, pt(0, 0), pt(1, 5)}, {pt(0, 0), p, pt(1, 5)}, {pt(0, 0), pt(1, 5), p}, {p, p, p}, {p, pt(0, 0), p}, {pt(0, 0), p, p}} {
			if got := point.Side(l[0], l[1], l[2]); got != 0 {
				t.Errorf("Side of %v = %d", l, got)
			}
			if point.On(l[0], l[1], l[2]) {
				t.Errorf("On of %v", l)
			}
		}
		for i := range 4 {
			l := []api.Point{pt(-5, -5), pt(9, 9), pt(9, -5), pt(-5, 9)}
			l[i] = p
			if got := point.Meet(l[0], l[1], l[2], l[3]); got != 0 {
				t.Errorf("Meet of %v = %d", l, got)
			}
		}
		if got := point.Meet(p, p, p, p) + point.Meet(pt(1, 1), p, pt(1, 1), p) + point.Meet(p, pt(1, 1), pt(1, 1), pt(1, 1)) + point.Meet(pt(1, 1), pt(1, 1), pt(1, 1), p); got != 0 {
			t.Errorf("Meet of segments that end at %v: %d in all", p, got)
		}
	}
}

func TestOnExamples(t *testing.T) { // P4.4
	for _, c := range []struct {
		a, b, p api.Point
		want    bool
	}{
		{pt(0, 0), pt(4, 2), pt(2, 1), true},
		{pt(0, 0), pt(4, 2), pt(6, 3), false},
		{pt(0, 0), pt(4, 2), pt(-2, -1), false},
		{pt(0, 0), pt(4, 2), pt(0, 0), true},
		{pt(0, 0), pt(4, 2), pt(4, 2), true},
		{pt(0, 0), pt(4, 2), pt(2, 2), false},
		{pt(4, 2), pt(0, 0), pt(2, 1), true},
		{pt(4, 0), pt(0, 2), pt(2, 1), true},
		{pt(4, 0), pt(0, 2), pt(6, -1), false},
		{pt(5, 1), pt(5, 9), pt(5, 4), true},
		{pt(5, 1), pt(5, 9), pt(5, 10), false},
		{pt(5, 1), pt(5, 9), pt(5, 0), false},
		{pt(1, 5), pt(9, 5), pt(4, 5), true},
		{pt(1, 5), pt(9, 5), pt(10, 5), false},
		{pt(7, 7), pt(7, 7), pt(7, 7), true},
		{pt(7, 7), pt(7, 7), pt(7, 8), false},
		{pt(7, 7), pt(7, 7), pt(0, 0), false},
		{pt(-far, far), pt(far, -far), pt(3, -3), true},
		{pt(-far, far), pt(far, -far), pt(3, -4), false},
		{pt(-far, far), pt(far, -far), pt(far, -far), true},
		{pt(far, far), pt(far, far), pt(far, far), true},
	} {
		if got := point.On(c.a, c.b, c.p); got != c.want {
			t.Errorf("On(%v, %v, %v) = %v", c.a, c.b, c.p, got)
		}
	}
}

func checkOn(t *testing.T, a, b, p api.Point) {
	t.Helper()
	if got, want := point.On(a, b, p), onSegment(whole(a), whole(b), whole(p)); got != want {
		t.Fatalf("On(%v, %v, %v) = %v", a, b, p, got)
	}
}

func TestOnOfManyPoints(t *testing.T) { // P4.4
	l := grid(4)
	for _, a := range l {
		for _, b := range l {
			for _, p := range l {
				checkOn(t, a, b, p)
			}
		}
	}
	r := rand.New(rand.NewSource(2))
	for range 5000 {
		// Multiples of one vector lie on one line.
		p, u := randomPoint(r, far>>2), randomPoint(r, 1<<r.Intn(50))
		at := func(k int) api.Point { return pt(p.X+k*u.X, p.Y+k*u.Y) }
		i, j, k := r.Intn(60)-30, r.Intn(60)-30, r.Intn(60)-30
		checkOn(t, at(i), at(j), at(k))
		checkOn(t, at(i), at(j), point.Add(at(k), pt(r.Intn(2), r.Intn(2))))
	}
}

func TestMeetExamples(t *testing.T) { // P4.4
	for _, c := range []struct {
		a, b, c, d api.Point
		want       int
	}{
		{pt(0, 0), pt(4, 4), pt(0, 4), pt(4, 0), 1},
		{pt(0, 0), pt(4, 4), pt(4, 4), pt(9, 4), 1},
		{pt(0, 0), pt(4, 4), pt(5, 5), pt(9, 9), 0},
		{pt(0, 0), pt(4, 4), pt(2, 2), pt(9, 9), 2},
		{pt(0, 0), pt(4, 4), pt(4, 4), pt(9, 9), 1},
		{pt(0, 0), pt(4, 4), pt(0, 0), pt(4, 4), 2},
		{pt(0, 0), pt(4, 4), pt(1, 1), pt(3, 3), 2},
		{pt(0, 0), pt(4, 4), pt(2, 2), pt(9, 0), 1},
		{pt(0, 0), pt(4, 4), pt(3, 2), pt(9, 0), 0},
		{pt(0, 0), pt(4, 4), pt(0, 1), pt(4, 5), 0},
		{pt(0, 0), pt(1, 1), pt(0, 1), pt(1, 0), 1},
		{pt(0, 0), pt(3, 1), pt(1, 0), pt(2, 1), 1},
		{pt(0, 0), pt(1, 1), pt(4, 0), pt(0, 4), 0},
		{pt(0, 0), pt(9, 9), pt(4, 3), pt(3, 2), 0},
		{pt(5, 0), pt(5, 4), pt(5, 2), pt(5, 9), 2},
		{pt(5, 0), pt(5, 4), pt(5, 4), pt(5, 9), 1},
		{pt(5, 0), pt(5, 4), pt(5, 5), pt(5, 9), 0},
		{pt(0, 5), pt(4, 5), pt(4, 5), pt(2, 5), 2},
		{pt(0, 4), pt(4, 0), pt(2, 2), pt(3, 1), 2},
		{pt(0, 4), pt(4, 0), pt(5, -1), pt(6, -2), 0},
		{pt(2, 2), pt(2, 2), pt(0, 0), pt(4, 4), 1},
		{pt(2, 2), pt(2, 2), pt(0, 0), pt(1, 1), 0},
		{pt(2, 3), pt(2, 3), pt(0, 0), pt(4, 4), 0},
		{pt(2, 2), pt(2, 2), pt(2, 2), pt(4, 9), 1},
		{pt(2, 2), pt(2, 2), pt(2, 2), pt(2, 2), 1},
		{pt(2, 2), pt(2, 2), pt(2, 3), pt(2, 3), 0},
		{pt(-far, -far), pt(far, far), pt(far, -far), pt(-far, far), 1},
		{pt(-far, -far), pt(far, far), pt(far, far), pt(far, -far), 1},
		{pt(-far, -far), pt(far, far), pt(far-1, far), pt(-far, far), 0},
		{pt(-far, -far), pt(far, far), pt(far-1, far-1), pt(far, far), 2},
		{pt(-far, -far), pt(far, far-1), pt(0, 0), pt(-1, 0), 0},
		{pt(-far, -far), pt(far, far-1), pt(0, 0), pt(0, -1), 1},
	} {
		if got := point.Meet(c.a, c.b, c.c, c.d); got != c.want {
			t.Errorf("Meet(%v, %v, %v, %v) = %d, want %d", c.a, c.b, c.c, c.d, got, c.want)
		}
	}
}

func checkMeet(t *testing.T, a, b, c, d api.Point) {
	t.Helper()
	if got, want := point.Meet(a, b, c, d), meetOf(whole(a), whole(b), whole(c), whole(d)); got != want {
		t.Fatalf("Meet(%v, %v, %v, %v) = %d, want %d", a, b, c, d, got, want)
	}
}

func TestMeetOfAllSmallSegments(t *testing.T) { // P4.4
	l := grid(3)
	for _, a := range l {
		for _, b := range l {
			for _, c := range l {
				for _, d := range l {
					checkMeet(t, a, b, c, d)
				}
			}
		}
	}
}

func TestMeetOfManySegments(t *testing.T) { // P4.4
	r := rand.New(rand.NewSource(3))
	for range 10000 {
		limit := far >> r.Intn(60)
		checkMeet(t, randomPoint(r, limit), randomPoint(r, limit), randomPoint(r, limit), randomPoint(r, limit))
	}
	l := boundedExtremes()
	for range 10000 {
		checkMeet(t, l[r.Intn(len(l))], l[r.Intn(len(l))], l[r.Intn(len(l))], l[r.Intn(len(l))])
	}
}

func TestMeetOnOneLine(t *testing.T) { // P4.4
	for _, u := range []api.Point{pt(1, 0), pt(0, 1), pt(2, 3), pt(-3, 1), pt(5, -7), pt(-1, -1), pt(1<<57, -1<<56)} {
		at := func(k int) api.Point { return pt(k*u.X, k*u.Y) }
		for i := range 4 {
			for j := range 4 {
				for k := range 4 {
					for m := range 4 {
						checkMeet(t, at(i), at(j), at(k), at(m))
					}
				}
			}
		}
	}
}

func TestBox(t *testing.T) { // P4.5
	for _, c := range []struct {
		l    []api.Point
		want api.Rect
	}{
		{nil, api.Rect{}},
		{[]api.Point{}, api.Rect{}},
		{[]api.Point{pt(3, -4)}, api.Rect{X0: 3, Y0: -4, X1: 3, Y1: -4}},
		{[]api.Point{pt(3, 4), pt(5, 9)}, api.Rect{X0: 3, Y0: 4, X1: 5, Y1: 9}},
		{[]api.Point{pt(5, 9), pt(3, 4)}, api.Rect{X0: 3, Y0: 4, X1: 5, Y1: 9}},
		{[]api.Point{pt(-3, -9), pt(-5, -4)}, api.Rect{X0: -5, Y0: -9, X1: -3, Y1: -4}},
		{[]api.Point{pt(0, 1), pt(4, 2), pt(2, 7), pt(1, -3)}, api.Rect{X0: 0, Y0: -3, X1: 4, Y1: 7}},
		{[]api.Point{pt(most, least), pt(most, least)}, api.Rect{X0: most, Y0: least, X1: most, Y1: least}},
		{[]api.Point{pt(most, least), pt(least, most)}, api.Rect{X0: least, Y0: least, X1: most, Y1: most}},
	} {
		if got := point.Box(c.l); got != c.want {
			t.Errorf("Box(%v) = %v, want %v", c.l, got, c.want)
		}
	}
}

// smallest reports whether b has all points of l, and one of them at each of its sides.
func smallest(b api.Rect, l []api.Point) bool {
	sides := [4]bool{}
	for _, p := range l {
		if p.X < b.X0 || p.X > b.X1 || p.Y < b.Y0 || p.Y > b.Y1 {
			return false
		}
		for i, at := range []bool{p.X == b.X0, p.X == b.X1, p.Y == b.Y0, p.Y == b.Y1} {
			sides[i] = sides[i] || at
		}
	}
	return sides == [4]bool{true, true, true, true}
}

func TestBoxOfManyPoints(t *testing.T) { // P4.5
	r := rand.New(rand.NewSource(4))
	for range 2000 {
		l := make([]api.Point, 1+r.Intn(30))
		limit := far >> r.Intn(60)
		for i := range l {
			l[i] = point.Add(randomPoint(r, limit), pt(limit, -limit))
		}
		before := slices.Clone(l)
		if got := point.Box(l); !smallest(got, l) {
			t.Fatalf("Box(%v) = %v", l, got)
		}
		if !slices.Equal(l, before) { // R3
			t.Fatal("Box changes its argument")
		}
	}
}

func TestNear(t *testing.T) { // P4.5
	rect := func(x0, y0, x1, y1 int) api.Rect { return api.Rect{X0: x0, Y0: y0, X1: x1, Y1: y1} }
	a := rect(2, 3, 6, 9)
	for _, c := range []struct {
		b    api.Rect
		want bool
	}{
		{a, true},
		{rect(3, 4, 5, 6), true},
		{rect(0, 0, 20, 20), true},
		{rect(4, 0, 5, 20), true},
		{rect(6, 9, 7, 10), true},
		{rect(0, 0, 2, 3), true},
		{rect(6, 0, 7, 3), true},
		{rect(0, 9, 2, 12), true},
		{rect(6, 4, 8, 5), true},
		{rect(7, 4, 8, 5), false},
		{rect(0, 4, 2, 5), true},
		{rect(0, 4, 1, 5), false},
		{rect(3, 9, 4, 10), true},
		{rect(3, 10, 4, 11), false},
		{rect(3, 0, 4, 3), true},
		{rect(3, 0, 4, 2), false},
		{rect(7, 10, 8, 11), false},
		{rect(least, least, most, most), true},
		{rect(most, least, most, most), false},
		{rect(least, least, least, most), false},
		{rect(5, 5, 4, 4), true}, // What is said of four numbers holds for those that are out of order, too.
		{rect(7, 5, 1, 5), false},
	} {
		if got := point.Near(a, c.b); got != c.want {
			t.Errorf("Near(%v, %v) = %v", a, c.b, got)
		}
		if got := point.Near(c.b, a); got != c.want {
			t.Errorf("Near(%v, %v) = %v", c.b, a, got)
		}
	}
}

func TestSpotOf(t *testing.T) { // P4.6
	for _, p := range append(extremes(), pt(0, 0), pt(3, -7)) {
		if got := point.SpotOf(p); got != spot(p.X, p.Y, 1) {
			t.Errorf("SpotOf(%v) = %v", p, got)
		}
	}
}

func TestMoveExamples(t *testing.T) { // P4.6
	for _, c := range []struct {
		a, b api.Spot
		f    api.Ratio
		want api.Spot
	}{
		{spot(0, 0, 1), spot(5, 1, 2), ratio(2, 3), spot(5, 1, 3)},
		{spot(0, 0, 1), spot(4, 2, 1), ratio(1, 2), spot(2, 1, 1)},
		{spot(0, 0, 1), spot(4, 2, 1), ratio(1, 4), spot(2, 1, 2)},
		{spot(0, 0, 1), spot(4, 2, 1), ratio(2, 8), spot(2, 1, 2)},
		{spot(0, 0, 6), spot(8, 4, 2), ratio(1, 4), spot(2, 1, 2)},
		{spot(1, 1, 2), spot(1, 1, 3), ratio(1, 2), spot(5, 5, 12)},
		{spot(1, 0, 2), spot(1, 0, 2), ratio(3, 7), spot(1, 0, 2)},
		{spot(3, 6, 9), spot(3, 6, 9), ratio(0, 5), spot(1, 2, 3)},
		{spot(0, 0, 1), spot(1, 0, 1), ratio(1, 1<<20), spot(1, 0, 1<<20)},
		{spot(0, 0, 1), spot(0, 1, 1), ratio(1, 1<<20), spot(0, 1, 1<<20)},
		{spot(-3, 5, 1), spot(-4, 7, 1), ratio(1, 3), spot(-10, 17, 3)},
		{spot(0, 0, 2048), spot(0, 0, 2048), ratio(1, 2), spot(0, 0, 1)},
		{spot(16384, -16384, 1), spot(-16384, 16384, 1), ratio(1, 2), spot(0, 0, 1)},
		{spot(16384*2048, 1, 2048), spot(16384*2047, 1, 2047), ratio(1, 1<<20), spot(16384*2047*2048<<20, 2047<<20+1, 2047*2048<<20)},
	} {
		if got, ok := point.Move(c.a, c.b, c.f); !ok || got != c.want {
			t.Errorf("Move(%v, %v, %v) = %v, %v, want %v", c.a, c.b, c.f, got, ok, c.want)
		}
	}
}

func checkMove(t *testing.T, a, b api.Spot, f api.Ratio) {
	t.Helper()
	if got, ok := point.Move(a, b, f); !ok || got != moveOf(a, b, f) {
		t.Fatalf("Move(%v, %v, %v) = %v, %v, want %v", a, b, f, got, ok, moveOf(a, b, f))
	}
}

func TestMoveOfManySpots(t *testing.T) { // P4.6
	r := rand.New(rand.NewSource(5))
	for range 20000 {
		d := between(r, 1, 1<<20>>r.Intn(20))
		f := ratio(between(r, 0, d), d)
		checkMove(t, randomRight(r), randomRight(r), f)
		checkMove(t, point.SpotOf(randomPoint(r, 40)), point.SpotOf(randomPoint(r, 40)), f)
	}
}

// rightExtremes returns right spots with the greatest numbers.
func rightExtremes() []api.Spot {
	var l []api.Spot
	for _, d := range []int{1, 2, 2047, 2048} {
		for _, x := range []int{-16384 * d, 1 - 16384*d, -1, 0, 1, 16384*d - 1, 16384 * d} {
			l = append(l, spot(x, 16384*d, d), spot(-16384*d, x, d), spot(x, -x, d))
		}
	}
	return l
}

func TestMoveOfRightExtremes(t *testing.T) { // P4.6
	for _, a := range rightExtremes() {
		for _, b := range rightExtremes() {
			for _, f := range []api.Ratio{ratio(0, 1), ratio(1, 2), ratio(1, 1<<20), ratio(1<<20-1, 1<<20), ratio(1<<20-2, 1<<20-1), ratio(1<<20, 1<<20)} {
				checkMove(t, a, b, f)
			}
		}
	}
}

func refuseMove(t *testing.T, a, b api.Spot, f api.Ratio) {
	t.Helper()
	if got, ok := point.Move(a, b, f); ok || got != (api.Spot{}) {
		t.Errorf("Move(%v, %v, %v) = %v, %v, want the zero spot and false", a, b, f, got, ok)
	}
}

// wrongSpots returns spots that aren't right.
func wrongSpots() []api.Spot {
	l := []api.Spot{{}}
	for _, d := range []int{0, -1, -2, -2048, 2049, 1 << 21, farSpotD, 1 << 50, 1 << 62, most, least} {
		l = append(l, spot(0, 0, d), spot(1, 1, d), spot(d, -d, d))
	}
	for _, d := range []int{1, 2, 3, 2047, 2048} {
		for _, x := range append([]int{16384*d + 1, -16384*d - 1, farSpot, -farSpot}, unbounded...) {
			l = append(l, spot(x, 0, d), spot(0, x, d), spot(x, x, d))
		}
	}
	return l
}

func TestMoveOfWrongSpots(t *testing.T) { // P4.6
	for _, s := range wrongSpots() {
		for _, f := range []api.Ratio{ratio(0, 1), ratio(1, 2), ratio(1, 1)} {
			refuseMove(t, s, spot(1, 2, 3), f)
			refuseMove(t, spot(1, 2, 3), s, f)
			refuseMove(t, s, s, f)
		}
	}
}

func TestMoveByWrongFractions(t *testing.T) { // P4.6
	for _, d := range []int{0, -1, -2, -1 << 20, 1<<20 + 1, 1 << 21, 1 << 40, 1 << 62, most, least} {
		for _, n := range []int{0, 1, -1, d / 2, d} {
			refuseMove(t, spot(1, 2, 3), spot(4, 5, 6), ratio(n, d))
		}
	}
	for _, d := range []int{1, 2, 3, 1<<20 - 1, 1 << 20} {
		for _, n := range []int{-1, d + 1, 2 * d, -d, 1 << 40, most, least} {
			refuseMove(t, spot(1, 2, 3), spot(4, 5, 6), ratio(n, d))
		}
	}
	refuseMove(t, spot(1, 2, 3), spot(4, 5, 6), api.Ratio{})
}

func TestSpotSideExamples(t *testing.T) { // P4.7
	for _, c := range []struct {
		a, b, p api.Spot
		want    int
	}{
		{spot(0, 0, 1), spot(3, 3, 2), spot(3, 4, 6), 1},
		{spot(0, 0, 1), spot(3, 3, 2), spot(4, 3, 6), -1},
		{spot(0, 0, 1), spot(3, 3, 2), spot(5, 5, 7), 0},
		{spot(0, 0, 1), spot(3, 3, 2), spot(-5, -5, 7), 0},
		{spot(0, 0, 5), spot(6, 6, 4), spot(6, 8, 12), 1},
		{spot(1, 2, 1), spot(2, 4, 2), spot(9, 0, 1), 0},
		{spot(1, 1, 3), spot(4, 1, 3), spot(2, 1, 2), 1},
		{spot(1, 1, 3), spot(4, 1, 3), spot(2, 1, 4), -1},
		{spot(1, 1, 3), spot(4, 1, 3), spot(2, 2, 6), 0},
		{spot(0, 0, 1), spot(1, 1, farSpotD), spot(farSpot, farSpot, 1), 0},
		{spot(0, 0, 1), spot(1, 1, farSpotD), spot(farSpot-1, farSpot, 1), 1},
		{spot(-farSpot, -farSpot, 1), spot(farSpot, farSpot, 1), spot(1, 0, farSpotD), -1},
		{spot(-farSpot, -farSpot, 1), spot(farSpot, farSpot, 1), spot(0, 1, farSpotD), 1},
		{spot(farSpot, 1, farSpotD), spot(farSpot, 1, farSpotD-1), spot(farSpot, 1, farSpotD-2), 0},
	} {
		if got := point.SpotSide(c.a, c.b, c.p); got != c.want {
			t.Errorf("SpotSide(%v, %v, %v) = %d, want %d", c.a, c.b, c.p, got, c.want)
		}
	}
}

func checkSpotSide(t *testing.T, a, b, p api.Spot) {
	t.Helper()
	if got, want := point.SpotSide(a, b, p), sideOf(exactly(a), exactly(b), exactly(p)); got != want {
		t.Fatalf("SpotSide(%v, %v, %v) = %d, want %d", a, b, p, got, want)
	}
}

func TestSpotSideOfManySpots(t *testing.T) { // P4.7
	var l []api.Spot
	for _, p := range grid(3) {
		for d := 1; d <= 3; d++ {
			l = append(l, spot(p.X, p.Y, d))
		}
	}
	for _, a := range l {
		for _, b := range l {
			for _, p := range l {
				checkSpotSide(t, a, b, p)
			}
		}
	}
	r := rand.New(rand.NewSource(6))
	for range 20000 {
		checkSpotSide(t, randomBounded(r), randomBounded(r), randomBounded(r))
		checkSpotSide(t, randomRight(r), randomRight(r), randomRight(r))
	}
}

func TestSpotSideOfExtremes(t *testing.T) { // P4.7
	var l []api.Spot
	for _, x := range []int{-farSpot, 1 - farSpot, 0, farSpot} {
		for _, y := range []int{-farSpot, 1, farSpot - 1, farSpot} {
			l = append(l, spot(x, y, 1), spot(x, y, farSpotD-1), spot(x, y, farSpotD))
		}
	}
	for _, a := range l {
		for _, b := range l {
			for _, p := range l {
				checkSpotSide(t, a, b, p)
			}
		}
	}
}

func TestSpotSideOfSpotsThatAreNotBounded(t *testing.T) { // P4.7
	wrong := []api.Spot{{}}
	for _, d := range []int{0, -1, -farSpotD, farSpotD + 1, 1 << 30, most, least} {
		wrong = append(wrong, spot(1, 5, d), spot(0, 1, d))
	}
	for _, d := range []int{1, 2, farSpotD} {
		for _, x := range append([]int{farSpot + 1, -farSpot - 1, 1 << 40}, unbounded...) {
			wrong = append(wrong, spot(x, 5, d), spot(5, x, d), spot(x, -x, d))
		}
	}
	for _, s := range wrong {
		for _, l := range [][]api.Spot{{s, spot(0, 0, 1), spot(9, 1, 1)}, {spot(0, 0, 1), s, spot(9, 1, 1)}, {spot(0, 0, 1), spot(9, 1, 1), s}, {s, spot(0, 0, 1), s}, {s, s, s}} {
			if got := point.SpotSide(l[0], l[1], l[2]); got != 0 {
				t.Errorf("SpotSide of %v = %d", l, got)
			}
		}
	}
}

func TestSpotSideOfPoints(t *testing.T) { // P4.3, P4.7
	r := rand.New(rand.NewSource(7))
	for range 5000 {
		limit := farSpot >> r.Intn(37)
		a, b, p := randomPoint(r, limit), randomPoint(r, limit), randomPoint(r, limit)
		if got, want := point.SpotSide(point.SpotOf(a), point.SpotOf(b), point.SpotOf(p)), point.Side(a, b, p); got != want {
			t.Fatalf("SpotSide of %v, %v, %v = %d, want %d", a, b, p, got, want)
		}
	}
}

func TestSideOfMovedPoints(t *testing.T) { // P4.8
	r := rand.New(rand.NewSource(8))
	for range 5000 {
		limit := far >> 1 >> r.Intn(59)
		a, b, p, by := randomPoint(r, limit), randomPoint(r, limit), randomPoint(r, limit), randomPoint(r, limit)
		side := point.Side(a, b, p)
		for n := range 4 {
			if got := point.Side(point.Turn(a, n), point.Turn(b, n), point.Turn(p, n)); got != side {
				t.Fatalf("Side(%v, %v, %v) = %d, but turned by %d it is %d", a, b, p, side, n, got)
			}
		}
		if got := point.Side(point.Add(a, by), point.Add(b, by), point.Add(p, by)); got != side {
			t.Fatalf("Side(%v, %v, %v) = %d, but moved by %v it is %d", a, b, p, side, by, got)
		}
		if got := point.Side(b, a, p); got != -side {
			t.Fatalf("Side(%v, %v, %v) = %d, and from %v to %v %d", a, b, p, side, b, a, got)
		}
	}
}

func TestMeetInAnyOrder(t *testing.T) { // P4.8
	r := rand.New(rand.NewSource(9))
	for range 20000 {
		limit := []int{2, 3, 5, 100, far}[r.Intn(5)]
		a, b, c, d := randomPoint(r, limit), randomPoint(r, limit), randomPoint(r, limit), randomPoint(r, limit)
		meet := point.Meet(a, b, c, d)
		for _, l := range [][4]api.Point{{a, b, d, c}, {b, a, c, d}, {b, a, d, c}, {c, d, a, b}, {c, d, b, a}, {d, c, a, b}, {d, c, b, a}} {
			if got := point.Meet(l[0], l[1], l[2], l[3]); got != meet {
				t.Fatalf("Meet of %v = %d, but %d in another order", l, got, meet)
			}
		}
	}
}

func TestSegmentsWithTwoCommonPoints(t *testing.T) { // P4.8
	l := grid(3)
	for _, a := range l {
		for _, b := range l {
			for _, c := range l {
				for _, d := range l {
					n := 0
					for _, p := range l {
						n += count(point.On(a, b, p) && point.On(c, d, p))
					}
					if got := point.Meet(a, b, c, d); n >= 2 && got != 2 || n == 1 && got == 0 {
						t.Fatalf("Meet(%v, %v, %v, %v) = %d, but there are %d points on both", a, b, c, d, got, n)
					}
				}
			}
		}
	}
}

// inLowestTerms returns the same spot with the least D.
func inLowestTerms(s api.Spot) api.Spot {
	for d := s.D; d > 1; d-- {
		if s.D%d == 0 && s.X%d == 0 && s.Y%d == 0 {
			s = spot(s.X/d, s.Y/d, s.D/d)
		}
	}
	return s
}

func TestMoveToTheEnds(t *testing.T) { // P4.9
	r := rand.New(rand.NewSource(10))
	for range 3000 {
		a, b, d := randomRight(r), randomRight(r), between(r, 1, 1<<20)
		if got, ok := point.Move(a, b, ratio(0, d)); !ok || got != inLowestTerms(a) {
			t.Fatalf("Move(%v, %v, 0/%d) = %v, %v", a, b, d, got, ok)
		}
		if got, ok := point.Move(a, b, ratio(d, d)); !ok || got != inLowestTerms(b) {
			t.Fatalf("Move(%v, %v, %d/%d) = %v, %v", a, b, d, d, got, ok)
		}
	}
}

func TestMovedSpotsAreOnTheLine(t *testing.T) { // P4.9
	r := rand.New(rand.NewSource(11))
	for range 5000 {
		a, b := randomRight(r), randomRight(r)
		d := between(r, 1, 1<<20)
		f := ratio(between(r, 0, d), d)
		s, ok := point.Move(a, b, f)
		if !ok || !onSegment(exactly(a), exactly(b), exactly(s)) {
			t.Fatalf("Move(%v, %v, %v) = %v, %v is beside the segment", a, b, f, s, ok)
		}
		// A small fraction of whole points is a bounded spot.
		p, q := point.SpotOf(randomPoint(r, 16384)), point.SpotOf(randomPoint(r, 16384))
		s, ok = point.Move(p, q, f)
		if !ok || point.SpotSide(p, q, s) != 0 {
			t.Fatalf("Move(%v, %v, %v) = %v, %v is beside the line", p, q, f, s, ok)
		}
	}
}

func TestAnyArguments(t *testing.T) { // P1
	numbers := append([]int{-1, 0, 1, 2, 1 << 20, 2048, farSpot, far}, unbounded...)
	pick := func(r *rand.Rand) int { return numbers[r.Intn(len(numbers))] }
	r := rand.New(rand.NewSource(12))
	for range 100000 {
		a, b, c, d := pt(pick(r), pick(r)), pt(pick(r), pick(r)), pt(pick(r), pick(r)), pt(pick(r), pick(r))
		s, u := spot(pick(r), pick(r), pick(r)), spot(pick(r), pick(r), pick(r))
		point.Turn(a, pick(r))
		point.Side(a, b, c)
		point.On(a, b, c)
		point.Meet(a, b, c, d)
		point.Box([]api.Point{a, b, c, d})
		point.Near(point.Box([]api.Point{a, b}), point.Box([]api.Point{c, d}))
		point.Move(s, u, ratio(pick(r), pick(r)))
		point.SpotSide(s, u, point.SpotOf(a))
	}
}
