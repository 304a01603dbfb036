package line_test

import (
	"math"
	"math/big"
	"math/rand"
	"slices"
	"testing"

	"hachure/api"
	"hachure/exact"
	"hachure/line"
	"hachure/point"
	"hachure/sample"
)

const (
	least = math.MinInt
	most  = math.MaxInt
	far   = api.MaxCoord
)

var (
	pt          = sample.Pt
	pts         = sample.Pts
	grid        = sample.Grid
	wrongPoints = sample.WrongPoints
	everyList   = sample.EveryList
)

// walk returns n points that make up a line: from (0, 0) on, by 10 to the right and by 1 up and down.
func walk(n int) []api.Point {
	l := make([]api.Point, n)
	for i := range l {
		l[i] = pt(10*i, i%2)
	}
	return l
}

// loop returns a closed line of n points, an even number.
func loop(n int) []api.Point {
	there := walk(n / 2)
	back := walk(n/2 - 1)
	slices.Reverse(back)
	for i := range back {
		back[i].Y += 100
	}
	return append(append(there, back...), there[0])
}

// limits are bounds of random points: on narrow grids points are often equal, or on one line.
var limits = []int{1, 2, 3, 5, 40, far}

// half is all points of which A X + B Y is at least C.
type half struct{ a, b, c int }

// hull returns the halves of the plane whose common points are the least convex set with all points of l.
func hull(l ...api.Point) []half {
	var halves []half
	add := func(a, b int, at api.Point) {
		c := a*at.X + b*at.Y
		for _, q := range l {
			if a*q.X+b*q.Y < c {
				return
			}
		}
		halves = append(halves, half{a, b, c})
	}
	for _, p := range l {
		for _, q := range l {
			x, y := q.X-p.X, q.Y-p.Y
			add(x, y, p)
			add(-y, x, p)
		}
		add(1, 0, p)
		add(-1, 0, p)
		add(0, 1, p)
		add(0, -1, p)
	}
	return halves
}

// part is what of a segment is in a convex set: nothing (n is 0), the one point X, Y (1), or infinitely many points (2).
type part struct {
	n    int
	x, y *big.Rat
}

func (p part) is(q api.Point) bool {
	return p.n == 1 && p.x.Cmp(whole(q.X)) == 0 && p.y.Cmp(whole(q.Y)) == 0
}

func whole(n int) *big.Rat {
	return big.NewRat(int64(n), 1)
}

// clip returns the part of the segment from d to e that is in the convex set of l: the points d + t (e - d), for all t between two numbers.
func clip(d, e api.Point, l ...api.Point) part {
	low, high := whole(0), whole(1)
	for _, h := range hull(l...) {
		at := h.a*d.X + h.b*d.Y - h.c
		by := h.a*(e.X-d.X) + h.b*(e.Y-d.Y)
		if by == 0 {
			if at < 0 {
				return part{}
			}
			continue
		}
		switch t := big.NewRat(int64(-at), int64(by)); {
		case by > 0 && t.Cmp(low) > 0:
			low = t
		case by < 0 && t.Cmp(high) < 0:
			high = t
		}
	}
	switch {
	case low.Cmp(high) > 0:
		return part{}
	case low.Cmp(high) < 0 && d != e:
		return part{n: 2}
	}
	return part{1, onWay(d.X, e.X, low), onWay(d.Y, e.Y, low)}
}

// onWay returns a + t (b - a).
func onWay(a, b int, t *big.Rat) *big.Rat {
	way := new(big.Rat).Mul(whole(b-a), t)
	return way.Add(way, whole(a))
}

func wantIn(a, b, c, p api.Point) bool {
	return clip(p, p, a, b, c).n > 0
}

func wantTouches(a, b, c, d, e api.Point) bool {
	common := clip(d, e, a, b, c)
	return common.n > 0 && !common.is(a) && !common.is(c)
}

func wantCross(l, m []api.Point) bool {
	isEnd := func(common part, l []api.Point) bool {
		return common.is(l[0]) || common.is(l[len(l)-1])
	}
	for i := 1; i < len(l); i++ {
		for j := 1; j < len(m); j++ {
			common := clip(l[i-1], l[i], m[j-1], m[j])
			if common.n > 0 && !(isEnd(common, l) && isEnd(common, m)) {
				return true
			}
		}
	}
	return false
}

// wantLine is what Check says of at least two right points.
func wantLine(l []api.Point) api.Errno {
	n := len(l) - 1
	closed := n >= 3 && l[0] == l[n]
	for i := range n {
		if l[i] == l[i+1] {
			return api.ErrLine
		}
		for j := i + 1; j < n; j++ {
			want := 0
			if j == i+1 || closed && i == 0 && j == n-1 {
				want = 1
			}
			if clip(l[i], l[i+1], l[j], l[j+1]).n != want {
				return api.ErrLine
			}
		}
	}
	return api.OK
}

// distance returns the square of the distance from p to the segment from a to b.
func distance(a, b, p api.Point) *big.Rat {
	t := whole(0)
	if a != b {
		x, y := b.X-a.X, b.Y-a.Y
		t = big.NewRat(int64((p.X-a.X)*x+(p.Y-a.Y)*y), int64(x*x+y*y))
	}
	if t.Sign() < 0 {
		t = whole(0)
	}
	if t.Cmp(whole(1)) > 0 {
		t = whole(1)
	}
	square := func(at *big.Rat, n int) *big.Rat {
		at.Sub(at, whole(n))
		return at.Mul(at, at)
	}
	sum := square(onWay(a.X, b.X, t), p.X)
	return sum.Add(sum, square(onWay(a.Y, b.Y, t), p.Y))
}

// leastN returns the least n for which Within holds, of at least two right points and a right one.
func leastN(l []api.Point, p api.Point) int {
	n := most
	for i := 1; i < len(l); i++ {
		d := distance(l[i-1], l[i], p)
		d.Mul(d, whole(4))
		up := new(big.Int).Add(d.Num(), new(big.Int).Sub(d.Denom(), big.NewInt(1)))
		n = min(n, int(up.Quo(up, d.Denom()).Int64()))
	}
	return n
}

func checkCheck(t *testing.T, l []api.Point, want api.Errno) {
	t.Helper()
	before := slices.Clone(l)
	if got := line.Check(l); got != want {
		t.Fatalf("Check(%v) = %v, want %v", l, got, want)
	}
	if !slices.Equal(l, before) { // R3
		t.Fatalf("Check changes %v into %v", before, l)
	}
}

func TestCheckMany(t *testing.T) { // P5.1
	wrong := pt(far+1, 0)
	for name, c := range map[string]struct {
		l    []api.Point
		want api.Errno
	}{
		"nil":                      {nil, api.ErrMany},
		"empty":                    {[]api.Point{}, api.ErrMany},
		"one":                      {pts(3, 4), api.ErrMany},
		"one that isn't right":     {[]api.Point{wrong}, api.ErrMany},
		"two":                      {walk(2), api.OK},
		"39":                       {walk(39), api.OK},
		"40":                       {walk(40), api.OK},
		"41":                       {walk(41), api.ErrMany},
		"1000":                     {walk(1000), api.ErrMany},
		"40, closed":               {loop(40), api.OK},
		"42, closed":               {loop(42), api.ErrMany},
		"41, one isn't right":      {append(walk(40), wrong), api.ErrMany},
		"41, two are equal":        {append(walk(40), walk(40)[39]), api.ErrMany},
		"40, the last isn't right": {append(walk(39), wrong), api.ErrPoint},
		"40, the last two equal":   {append(walk(39), walk(39)[38]), api.ErrLine},
		"40, the last is on it":    {append(walk(39), pt(5, 0), pt(10, 1))[:40], api.ErrLine},
	} {
		if got := line.Check(c.l); got != c.want {
			t.Errorf("%s: %v, want %v", name, got, c.want)
		}
	}
}

func TestCheckPoint(t *testing.T) { // P5.1
	for _, p := range wrongPoints() {
		for _, l := range [][]api.Point{
			{p, pt(1, 1)},
			{pt(1, 1), p},
			{pt(1, 1), p, pt(9, 9)},
			{p, p},                            // equal neighbours
			{pt(1, 1), pt(1, 1), p},           // equal neighbours before it
			{pt(0, 0), pt(9, 0), pt(5, 0), p}, // a line that meets itself
			{p, pt(0, 0), pt(5, 5), p},        // closed
		} {
			checkCheck(t, l, api.ErrPoint)
		}
	}
	for _, x := range []int{-far, 0, far} {
		for _, y := range []int{-far, far} {
			checkCheck(t, []api.Point{pt(1, 1), pt(x, y)}, api.OK)
			checkCheck(t, []api.Point{pt(y, x), pt(1, 1)}, api.OK)
		}
	}
	checkCheck(t, pts(-far, -far, far, far, far, -far, -far, -far), api.OK)
}

func TestCheckLine(t *testing.T) { // P5.1
	for _, c := range []struct {
		l    []api.Point
		want api.Errno
	}{
		{pts(0, 0, 10, 0, 10, 10), api.OK},
		{pts(0, 0, 10, 0, 10, 10, 0, 0), api.OK},
		{pts(0, 0, 10, 0, 10, 10, 5, 0), api.ErrLine},
		{pts(0, 0, 10, 0, 5, 0), api.ErrLine},
		{pts(0, 0, 0, 0), api.ErrLine},
		{pts(0, 0), api.ErrMany},

		// Neighbours that are equal.
		{pts(0, 0, 0, 0, 5, 0), api.ErrLine},
		{pts(0, 0, 5, 0, 5, 0), api.ErrLine},
		{pts(0, 0, 5, 0, 5, 0, 9, 1), api.ErrLine},
		{pts(0, 0, 5, 0, 5, 5, 0, 0, 0, 0), api.ErrLine},
		{pts(7, 7, 7, 7, 7, 7, 7, 7), api.ErrLine},

		// One segment and the next one.
		{pts(0, 0, 5, 0, 10, 0), api.OK},
		{pts(0, 0, 5, 5, 10, 10, 11, 11), api.OK},
		{pts(0, 0, 10, 10, 0, 0), api.ErrLine},
		{pts(0, 0, 10, 10, -5, -5), api.ErrLine},
		{pts(0, 0, 10, 10, 9, 9), api.ErrLine},
		{pts(0, 0, 10, 10, 9, 10), api.OK},
		{pts(0, 0, 4, 0, 4, 4, 4, 2), api.ErrLine},

		// Segments that aren't neighbours.
		{pts(0, 0, 10, 0, 10, 5, 5, -5), api.ErrLine},              // cross
		{pts(0, 0, 10, 0, 10, 5, 5, 1), api.OK},                    // come near
		{pts(0, 0, 10, 0, 10, 5, 5, 0), api.ErrLine},               // end on it
		{pts(5, 0, 10, 5, 10, 0, 0, 0), api.ErrLine},               // begin on a later one
		{pts(0, 0, 10, 0, 5, 5, 5, 0, 5, -5), api.ErrLine},         // a corner on it
		{pts(0, 0, 9, 0, 9, 9, 0, 9, 9, 0), api.ErrLine},           // end at a corner
		{pts(0, 0, 5, 0, 5, 5, 0, 5, 0, -5), api.ErrLine},          // pass through the first point
		{pts(0, 0, 10, 0, 10, 5, 20, 5, 20, 0, 5, 0), api.ErrLine}, // on one line
		{pts(0, 0, 10, 0, 10, 5, 20, 5, 20, 0, 11, 0), api.OK},
		{pts(0, 0, 10, 0, 10, 5, 20, 5, 20, 0, 10, 0), api.ErrLine},
		{pts(0, 0, 10, 1, 20, 0, 10, -1, 0, -5), api.OK},
		{pts(0, 0, 10, 1, 20, 0, 10, 2, 5, 0), api.ErrLine},

		// Closed lists.
		{pts(0, 0, 10, 0, 0, 0), api.ErrLine},                 // there and back: 3 points
		{pts(0, 0, 10, 0, 20, 0, 0, 0), api.ErrLine},          // there and back: 4 points
		{pts(0, 0, 10, 0, 10, 10, 0, 10, 0, 0), api.OK},       // a square
		{pts(5, 0, 10, 0, 10, 10, 0, 10, 0, 0, 5, 0), api.OK}, // straight on where it's closed
		{pts(0, 0, 10, 0, 10, 5, 5, 0, 0, 0), api.ErrLine},    // the last segment and the first one overlap
		{pts(0, 0, 5, 0, 5, 5, 10, 5, 10, 0, 0, 0), api.ErrLine},
		{pts(0, 0, 10, 10, 10, 0, 0, 10, 0, 0), api.ErrLine},         // an eight
		{pts(0, 0, 5, 5, 9, 5, 0, 0, 9, 9, 0, 9, 0, 0), api.ErrLine}, // through the first point in between
		{pts(0, 0, 9, 0, 9, 9, 5, 0, 0, 9, 0, 0), api.ErrLine},       // a corner on the first segment
		{pts(0, 0, 9, 0, 9, 9, 0, 5, 5, 9, 0, 9, 0, 0), api.ErrLine}, // a corner on the last one
	} {
		checkCheck(t, c.l, c.want)
		checkCheck(t, line.Reverse(c.l), c.want)
	}
}

func TestCheckOfAllSmallLists(t *testing.T) { // P5.1
	for n := 2; n <= 4; n++ {
		everyList(grid(3), n, func(l []api.Point) { checkCheck(t, l, wantLine(l)) })
	}
	// All that end where they begin.
	everyList(grid(3), 4, func(l []api.Point) {
		closed := append(slices.Clone(l), l[0])
		checkCheck(t, closed, wantLine(closed))
	})
}

// randomWalk returns points of which most are near to the one before, so that they often make up a line.
func randomWalk(r *rand.Rand, n, limit int) []api.Point {
	l := []api.Point{sample.RandomPoint(r, limit)}
	for len(l) < n {
		l = append(l, point.Add(l[len(l)-1], sample.RandomPoint(r, 2)))
	}
	return l
}

func TestCheckOfManyLists(t *testing.T) { // P5.1
	r := rand.New(rand.NewSource(1))
	lines := 0
	for range 20000 {
		limit := limits[r.Intn(len(limits))]
		l := sample.RandomList(r, 2+r.Intn(6), limit)
		if r.Intn(2) == 0 {
			l = randomWalk(r, 2+r.Intn(9), limit-limit/2)
		}
		if r.Intn(3) == 0 {
			l = append(l, l[0])
		}
		checkCheck(t, l, wantLine(l))
		if wantLine(l) == api.OK {
			lines++
		}
	}
	if lines < 1000 {
		t.Errorf("only %d lines", lines)
	}
}

func TestCheckOfLongLists(t *testing.T) { // P5.1
	for _, l := range [][]api.Point{walk(40), loop(40)} {
		for i := range l {
			for j := i % 5; j < len(l); j += 5 {
				m := slices.Clone(l)
				m[i] = l[j]
				checkCheck(t, m, wantLine(m))
			}
		}
	}
}

func TestClosed(t *testing.T) { // P5.2
	for _, c := range []struct {
		l    []api.Point
		want bool
	}{
		{nil, false},
		{[]api.Point{}, false},
		{pts(1, 2), false},
		{pts(1, 2, 1, 2), false},
		{pts(1, 2, 3, 4, 1, 2), false},
		{pts(1, 2, 3, 4, 5, 5, 1, 2), true},
		{pts(1, 2, 3, 4, 5, 5, 1, 3), false},
		{pts(1, 2, 3, 4, 5, 5, 2, 2), false},
		{pts(1, 2, 3, 4, 1, 2, 5, 5), false},
		{pts(1, 2, 3, 4, 5, 5, 6, 6, 1, 2), true},
		{pts(1, 2, 1, 2, 1, 2, 1, 2), true}, // no line, but closed
		{pts(most, least, 0, 0, 3, 4, most, least), true},
		{pts(most, least, 0, 0, 3, 4, least, most), false},
		{walk(40), false},
		{loop(40), true},
		{loop(100), true},
	} {
		if got := line.Closed(c.l); got != c.want {
			t.Errorf("Closed(%v) = %v", c.l, got)
		}
	}
}

func TestLength(t *testing.T) { // P5.2
	for _, c := range []struct {
		l    []api.Point
		want int
	}{
		{nil, 0},
		{pts(3, 4), 0},
		{pts(0, 0, 3, 4, 4, 5), 6},
		{pts(0, 0, 3, 4), 5},
		{pts(3, 4, 0, 0), 5},
		{pts(1, 1, 1, 1), 0},
		{pts(0, 0, 1, 1, 2, 2, 3, 3), 3}, // each rounded down: in one segment, it is 4
		{pts(0, 0, 3, 3), 4},
		{pts(0, 0, 3, 4, 0, 0, 3, 4), 15},
		{pts(0, 0, 10, 0, 10, 10, 0, 0), 34}, // closed
		{pts(-far, -far, far, far), 46340},
		{walk(1001), 10000},
		// For points that aren't right, products and differences wrap around.
		{pts(0, 0, 1<<20, 0), 1 << 20},
		{pts(0, 0, 1<<32, 0), 0},
		{pts(0, 0, 0, 1<<32+1), 92681}, // the square is 2^33 + 1
		{pts(0, 0, 3037000500, 0), 0},  // it is negative
		{pts(0, 0, 3037000499, 0), 3037000499},
		{pts(0, 0, 2147483648, 2147483648), 0}, // the sum is -2^63
		{pts(most, 5, least, 5), 1},
		{pts(0, least, 0, most, 3, most-4), 6},
	} {
		if got := line.Length(c.l); got != c.want {
			t.Errorf("Length(%v) = %d, want %d", c.l, got, c.want)
		}
	}
}

func TestLengthOfManyLists(t *testing.T) { // P5.2
	r := rand.New(rand.NewSource(2))
	for range 2000 {
		l := sample.RandomList(r, r.Intn(50), far)
		want := 0
		for i := 1; i < len(l); i++ {
			square := big.NewInt(int64((l[i].X-l[i-1].X)*(l[i].X-l[i-1].X) + (l[i].Y-l[i-1].Y)*(l[i].Y-l[i-1].Y)))
			want += int(square.Sqrt(square).Int64())
		}
		before := slices.Clone(l)
		if got := line.Length(l); got != want {
			t.Fatalf("Length(%v) = %d, want %d", l, got, want)
		}
		if !slices.Equal(l, before) { // R3
			t.Fatal("Length changes its argument")
		}
	}
}

func TestWithinExamples(t *testing.T) { // P5.3
	for _, c := range []struct {
		l []api.Point
		p api.Point
		n int // the least one
	}{
		{pts(0, 0, 10, 0), pt(5, 3), 36},
		{pts(0, 0, 10, 0), pt(5, -3), 36},
		{pts(10, 0, 0, 0), pt(5, 3), 36},
		{pts(0, 0, 0, 10), pt(3, 5), 36},
		{pts(0, 0, 10, 0), pt(5, 0), 0},
		{pts(0, 0, 10, 0), pt(0, 0), 0},
		{pts(0, 0, 10, 0), pt(10, 0), 0},
		{pts(0, 0, 10, 0), pt(11, 0), 4},
		{pts(0, 0, 10, 0), pt(-1, 0), 4},
		{pts(0, 0, 10, 0), pt(13, 4), 100},
		{pts(0, 0, 10, 0), pt(-3, -4), 100},
		{pts(0, 0, 10, 0), pt(0, 2), 16},
		{pts(0, 0, 10, 0), pt(10, 2), 16},
		{pts(0, 0, 1, 1), pt(1, 0), 2}, // the square is 1/2
		{pts(0, 0, 2, 1), pt(1, 0), 1}, // it is 1/5: 4/5 is rounded up
		{pts(0, 0, 2, 1), pt(1, 1), 1},
		{pts(0, 0, 3, 1), pt(2, 1), 1}, // 4/10
		{pts(0, 0, 3, 2), pt(1, 2), 5}, // 64/13
		{pts(4, 4, 4, 4), pt(4, 4), 0}, // a segment of one point
		{pts(4, 4, 4, 4), pt(7, 8), 100},
		{pts(0, 0, 10, 0, 10, 10), pt(12, 5), 16}, // the second segment
		{pts(0, 0, 10, 0, 10, 10), pt(4, 7), 144},
		{pts(0, 0, 10, 0, 10, 10, 0, 0), pt(4, 7), 18}, // 4 times 9/2: the third one
		{pts(0, 0, 10, 0, 10, 10, 0, 0), pt(7, 3), 32}, // the third one as well
		{pts(-far, -far, far, far), pt(far, -far), 1 << 31},
		{pts(-far, -far, -far, -far+1), pt(far, far), 4 * (1<<30 + 32767*32767)},
		{pts(-far, -far, far, far-1), pt(far, far), 4},
		{pts(-far, -far, far, far-1), pt(0, 0), 1}, // the square is about 1/8
	} {
		for n, want := range map[int]bool{c.n: true, c.n - 1: false, c.n + 1: true, most: true, -1: false, least: false, -c.n - 1: false} {
			if got := line.Within(c.l, c.p, n); got != want {
				t.Errorf("Within(%v, %v, %d) = %v", c.l, c.p, n, got)
			}
		}
	}
}

func TestWithinWithoutSegments(t *testing.T) { // P5.3
	for _, l := range [][]api.Point{nil, {}, {pt(0, 0)}, {pt(3, 4)}} {
		for _, n := range []int{least, -1, 0, 1, 100, most} {
			for _, p := range pts(0, 0, 3, 4) {
				if line.Within(l, p, n) {
					t.Errorf("Within(%v, %v, %d)", l, p, n)
				}
			}
		}
	}
}

func TestWithinOfWrongPoints(t *testing.T) { // P5.3
	for _, p := range wrongPoints() {
		for _, l := range [][]api.Point{{p}, {p, p}, {p, pt(0, 0)}, {pt(0, 0), p}, {pt(0, 0), pt(5, 5), p}, {pt(0, 0), pt(5, 5), pt(9, 9), p, pt(7, 7)}} {
			for _, n := range []int{0, 100, most} {
				if line.Within(l, pt(0, 0), n) || line.Within(l, p, n) {
					t.Errorf("Within(%v, .., %d)", l, n)
				}
			}
		}
		for _, n := range []int{0, 100, most} {
			if line.Within(pts(0, 0, 5, 5), p, n) {
				t.Errorf("Within of %v, %d", p, n)
			}
		}
	}
}

func checkWithin(t *testing.T, l []api.Point, p api.Point) {
	t.Helper()
	n := leastN(l, p)
	if !line.Within(l, p, n) || line.Within(l, p, n-1) {
		t.Fatalf("Within(%v, %v, n) for n = %d, %d: %v, %v", l, p, n, n-1, line.Within(l, p, n), line.Within(l, p, n-1))
	}
}

func TestWithinOfManyPoints(t *testing.T) { // P5.3
	everyList(grid(4), 3, func(l []api.Point) { checkWithin(t, l[:2], l[2]) })
	r := rand.New(rand.NewSource(3))
	for range 10000 {
		limit := limits[r.Intn(len(limits))]
		l := sample.RandomList(r, 2+r.Intn(8), limit)
		before := slices.Clone(l)
		checkWithin(t, l, sample.RandomPoint(r, limit))
		if !slices.Equal(l, before) { // R3
			t.Fatal("Within changes its argument")
		}
	}
}

func TestWithinOfExtremes(t *testing.T) { // P5.3
	corners := pts(-far, -far, far, -far, far, far, -far, far, far-1, far, 1-far, -far, 0, 1, 0, 0, 1, 0)
	everyList(corners, 3, func(l []api.Point) { checkWithin(t, l[:2], l[2]) })
}

func TestInExamples(t *testing.T) { // P5.4
	a, b, c := pt(0, 0), pt(10, 0), pt(0, 10)
	for _, x := range []struct {
		a, b, c, p api.Point
		want       bool
	}{
		{a, b, c, pt(5, 5), true},
		{a, b, c, pt(6, 5), false},
		{a, b, c, pt(1, 1), true},
		{a, b, c, pt(5, 0), true},
		{a, b, c, pt(0, 5), true},
		{a, b, c, pt(5, -1), false},
		{a, b, c, pt(-1, 5), false},
		{a, b, c, a, true},
		{a, b, c, b, true},
		{a, b, c, c, true},
		{a, b, c, pt(11, 0), false}, // on the line of a side, beyond it
		{a, b, c, pt(-1, 0), false},
		{a, b, c, pt(0, 11), false},
		{a, b, c, pt(11, -1), false},
		{a, c, b, pt(1, 1), true}, // clockwise
		{a, c, b, pt(6, 5), false},
		{a, pt(5, 5), pt(9, 9), pt(7, 7), true}, // the corners lie in a line
		{a, pt(5, 5), pt(9, 9), pt(10, 10), false},
		{a, pt(5, 5), pt(9, 9), pt(7, 6), false},
		{a, pt(9, 9), pt(5, 5), pt(9, 9), true},
		{a, pt(9, 9), pt(5, 5), pt(7, 7), true},
		{a, pt(9, 9), pt(5, 5), pt(-1, -1), false},
		{a, a, b, pt(5, 0), true}, // two are equal
		{a, a, b, pt(5, 1), false},
		{a, b, a, pt(5, 0), true},
		{a, b, a, pt(11, 0), false},
		{b, a, a, pt(5, 0), true},
		{b, a, a, pt(5, -1), false},
		{b, b, b, b, true}, // all are equal
		{b, b, b, a, false},
		{pt(-far, -far), pt(far, -far), pt(far, far), pt(1, 1), true},
		{pt(-far, -far), pt(far, -far), pt(far, far), pt(0, 1), false},
		{pt(-far, -far), pt(far, far-1), pt(far, far), pt(far-1, far-1), true},
		{pt(-far, -far), pt(far, far-1), pt(far, far), pt(0, 1), false},
	} {
		if got := line.In(x.a, x.b, x.c, x.p); got != x.want {
			t.Errorf("In(%v, %v, %v, %v) = %v", x.a, x.b, x.c, x.p, got)
		}
	}
}

func TestInOfManyPoints(t *testing.T) { // P5.4
	check := func(l []api.Point) {
		if got := line.In(l[0], l[1], l[2], l[3]); got != wantIn(l[0], l[1], l[2], l[3]) {
			t.Fatalf("In of %v = %v", l, got)
		}
	}
	everyList(grid(3), 4, check)
	r := rand.New(rand.NewSource(4))
	for range 20000 {
		check(sample.RandomList(r, 4, limits[r.Intn(len(limits))]))
	}
}

func TestTouchesExamples(t *testing.T) { // P5.4
	a, b, c := pt(0, 0), pt(5, 5), pt(10, 0)
	for _, x := range []struct {
		a, b, c, d, e api.Point
		want          bool
	}{
		{a, b, c, pt(0, 0), pt(-5, 0), false},
		{a, b, c, pt(0, 0), pt(10, 0), true},
		{a, b, c, pt(5, 9), pt(5, 5), true},
		{a, b, c, pt(0, 9), pt(10, 9), false},
		{a, b, c, pt(0, 5), pt(10, 5), true}, // through b
		{a, b, c, pt(0, 6), pt(10, 6), false},
		{a, b, c, pt(-5, 5), pt(5, -5), false}, // through a
		{a, b, c, pt(-5, 4), pt(5, -6), false},
		{a, b, c, pt(-5, 6), pt(5, -4), true},
		{a, b, c, pt(15, 5), pt(5, -5), false}, // through c
		{a, b, c, pt(-5, 0), pt(20, 0), true},  // through a and c, and all between them
		{a, b, c, pt(-5, 0), pt(0, 0), false},  // to a
		{a, b, c, pt(-5, 0), pt(1, 0), true},
		{a, b, c, c, pt(20, 7), false}, // from c
		{a, b, c, c, pt(0, 1), true},
		{a, b, c, c, a, true},
		{a, b, c, a, b, true},
		{a, b, c, b, c, true},
		{a, b, c, b, pt(5, 9), true},        // from b
		{a, b, c, pt(5, 1), pt(5, 2), true}, // all of it inside
		{a, b, c, pt(4, 4), pt(3, 3), true}, // all of it on the border
		{a, b, c, pt(6, 4), pt(9, 9), true}, // from the border
		{a, b, c, pt(5, 1), pt(50, 10), true},
		{a, b, c, pt(5, -9), pt(5, 9), true},
		{a, b, c, pt(-9, 1), pt(19, 1), true},
		{a, b, c, pt(1, 9), pt(8, 2), true},      // along the border from b to c, within its line
		{a, b, c, pt(-9, -9), pt(-1, -1), false}, // on the line of a side
		{a, b, c, pt(6, 6), pt(9, 9), false},
		{a, b, c, pt(11, 0), pt(19, 0), false},
		{a, b, c, a, pt(1, 1), true},
		{a, b, c, a, pt(2, 1), true}, // from a to the inside
		{a, b, c, a, pt(20, 1), true},
		{a, b, c, a, pt(-20, -1), false},
		{a, b, c, a, a, false}, // a segment of one point
		{a, b, c, c, c, false},
		{a, b, c, b, b, true},
		{a, b, c, pt(5, 2), pt(5, 2), true},
		{a, b, c, pt(5, 0), pt(5, 0), true},
		{a, b, c, pt(5, 6), pt(5, 6), false},
		// The corners lie in a line.
		{a, pt(4, 0), c, pt(2, -1), pt(2, 1), true},
		{a, pt(4, 0), c, pt(0, -1), pt(0, 1), false},
		{a, pt(4, 0), c, pt(10, -1), pt(10, 1), false},
		{a, pt(4, 0), c, pt(4, -1), pt(4, 1), true},
		{a, pt(4, 0), c, pt(-9, 0), a, false},
		{a, pt(4, 0), c, pt(-9, 0), pt(19, 0), true},
		{a, pt(4, 0), c, pt(2, 0), pt(3, 0), true},
		{a, pt(14, 0), c, pt(10, -1), pt(10, 1), false}, // c, although it is between the others
		{a, pt(14, 0), c, pt(11, -1), pt(11, 1), true},
		{a, pt(14, 0), c, pt(14, -1), pt(14, 1), true},
		{a, pt(14, 0), c, pt(14, 0), pt(20, 0), true},
		{a, pt(14, 0), c, pt(15, 0), pt(20, 0), false},
		{a, pt(-4, 0), c, pt(0, -1), pt(0, 1), false}, // a, although it is between the others
		{a, pt(-4, 0), c, pt(-1, -1), pt(-1, 1), true},
		// Corners are equal.
		{a, b, a, pt(0, -1), pt(0, 1), false},
		{a, b, a, pt(0, 2), pt(2, 0), true},
		{a, b, a, pt(0, 10), pt(10, 0), true},
		{a, a, c, pt(0, -1), pt(0, 1), false},
		{a, a, c, pt(1, -1), pt(1, 1), true},
		{a, c, c, pt(10, -1), pt(10, 1), false},
		{a, c, c, pt(9, -1), pt(9, 1), true},
		{a, a, a, pt(-1, -1), pt(1, 1), false},
		{a, a, a, a, a, false},
		{a, a, a, pt(-1, -1), pt(2, 1), false},
		// Far away.
		{pt(-far, -far), pt(far, -far), pt(far, far), pt(-far, far), pt(0, 0), true},
		{pt(-far, -far), pt(far, -far), pt(far, far), pt(-far, far), pt(-1, 0), false},
		{pt(-far, -far), pt(far, -far), pt(far, far), pt(-far, far), pt(far, far), false},
		{pt(-far, -far), pt(far, -far), pt(far, far), pt(1-far, far), pt(-far, -far), false},
		{pt(-far, -far), pt(far, -far), pt(far, far), pt(1-far, far), pt(far, 1-far), true},
	} {
		for _, ends := range [2][2]api.Point{{x.d, x.e}, {x.e, x.d}} {
			if got := line.Touches(x.a, x.b, x.c, ends[0], ends[1]); got != x.want {
				t.Errorf("Touches(%v, %v, %v, %v, %v) = %v", x.a, x.b, x.c, ends[0], ends[1], got)
			}
			if got := line.Touches(x.c, x.b, x.a, ends[0], ends[1]); got != x.want {
				t.Errorf("Touches(%v, %v, %v, %v, %v) = %v", x.c, x.b, x.a, ends[0], ends[1], got)
			}
		}
	}
}

func checkTouches(t *testing.T, l []api.Point) {
	t.Helper()
	if got := line.Touches(l[0], l[1], l[2], l[3], l[4]); got != wantTouches(l[0], l[1], l[2], l[3], l[4]) {
		t.Fatalf("Touches of %v = %v", l, got)
	}
}

func TestTouchesOfManyPoints(t *testing.T) { // P5.4
	everyList(grid(3), 5, func(l []api.Point) { checkTouches(t, l) })
	r := rand.New(rand.NewSource(5))
	for range 20000 {
		checkTouches(t, sample.RandomList(r, 5, limits[r.Intn(len(limits))]))
	}
}

func TestTrianglesOfWrongPoints(t *testing.T) { // P5.4
	for _, p := range wrongPoints() {
		for i := range 5 {
			// All is true of these points.
			l := pts(0, 0, 9, 0, 0, 9, 1, 1, 2, 2)
			if !line.In(l[0], l[1], l[2], l[3]) || !line.Touches(l[0], l[1], l[2], l[3], l[4]) {
				t.Fatal("right points")
			}
			l[i] = p
			if i < 4 && line.In(l[0], l[1], l[2], l[3]) {
				t.Errorf("In of %v", l[:4])
			}
			if line.Touches(l[0], l[1], l[2], l[3], l[4]) {
				t.Errorf("Touches of %v", l)
			}
		}
		if line.In(p, p, p, p) || line.Touches(p, p, p, p, p) || line.Touches(pt(0, 0), p, pt(9, 9), p, p) || line.Touches(pt(0, 0), pt(1, 1), pt(9, 9), pt(5, 5), p) {
			t.Errorf("a triangle of %v", p)
		}
	}
}

func TestCrossExamples(t *testing.T) { // P5.5
	l := pts(0, 0, 10, 0)
	for _, c := range []struct {
		l, m []api.Point
		want bool
	}{
		{l, pts(10, 0, 10, 9), false},
		{l, pts(5, 0, 5, 9), true},
		{l, pts(0, 0, 10, 0), true},
		{l, pts(10, 0, 0, 0), true},
		{l, pts(5, -5, 5, 5), true},
		{l, pts(5, 1, 5, 5), false},
		{l, pts(0, 0, -5, 0), false},        // on one line, a common end
		{l, pts(-5, 0, 1, 0), true},         // on one line, overlapping
		{l, pts(11, 0, 12, 0), false},       // on one line, apart
		{l, pts(3, 0, 4, 0), true},          // a part
		{l, pts(10, 9, 10, 0, 20, 0), true}, // an end of l, a corner of the other one
		{l, pts(0, 9, 0, 0, -5, -5), true},
		{l, pts(10, 9, 10, -9), true}, // an end of l, between ends of the other one
		{l, pts(10, 0, 15, 5, 10, 9), false},
		{l, pts(10, 0, 15, 5, 0, 5, 0, 0), false}, // both ends are common
		{l, pts(10, 0, 15, 5, 0, 5, 1, 0), true},
		{l, pts(10, 0, 15, 5, 4, -5), true},
		{pts(0, 0, 10, 0, 10, 10), pts(10, 0, 20, 0), true}, // a corner of l, an end of the other one
		{pts(0, 0, 10, 0, 10, 10), pts(10, 10, 5, 5, 0, 0), false},
		{pts(0, 0, 10, 0, 10, 10), pts(20, 0, 10, 0, 15, -5), true}, // common corners
		{pts(0, 0, 10, 0, 10, 10), pts(20, 5, 10, 0, 0, -5), true},
		{pts(0, 0, 10, 0, 10, 10, 0, 0), pts(0, 0, -10, 0), false}, // closed: it has one end
		{pts(0, 0, 10, 0, 10, 10, 0, 0), pts(10, 0, 20, 0), true},
		{pts(0, 0, 10, 0, 10, 10, 0, 0), pts(0, 0, -10, 0, -10, -10, 0, 0), false},
		{pts(0, 0, 10, 0, 10, 10, 0, 0), pts(10, 0, 20, 0, 20, 20, 10, 0), true},
		{pts(0, 0, 10, 0, 10, 10, 0, 0), pts(2, 1, 8, 1, 8, 2, 2, 1), false}, // one inside of the other
		{pts(0, 0, 9, 9, 9, 0), pts(9, 1, 1, 9), true},
		{pts(0, 0, 0, 9, 5, 5), pts(5, 5, 9, 0, 0, 0), false},
		// Lists that are no lines.
		{pts(5, 0, 5, 0), l, true}, // one point, an end of one list only
		{pts(10, 0, 10, 0), l, false},
		{pts(5, 1, 5, 1), l, false},
		{pts(3, 3, 3, 3), pts(3, 3, 3, 3), false},
		{pts(3, 3, 3, 3), pts(4, 4, 4, 4), false},
		{pts(0, 0, 5, 0, 0, 0, 5, 5), pts(0, 0, 0, -5), false}, // an end to which it comes back
		{pts(0, 0, 5, 0, 0, 0, 5, 5), pts(5, 0, 5, -5), true},
		{l, pts(10, 0, 15, 5, 5, -5), false}, // the second segment meets it at an end of both
		// Without segments.
		{nil, nil, false},
		{nil, l, false},
		{pts(5, 0), l, false},
		{pts(5, 0), pts(5, 0), false},
		{[]api.Point{}, pts(0, 0), false},
		// Far away.
		{pts(-far, -far, far, far), pts(far, -far, -far, far), true},
		{pts(-far, -far, far, far), pts(far, far-1, -far, -far), false},
		{pts(-far, -far, far, far), pts(far, far-1, -far, 1-far), true},
		{pts(-far, -far, far, far), pts(far, far-1, 1-far, -far), false},
	} {
		for _, pair := range [2][2][]api.Point{{c.l, c.m}, {c.m, c.l}} {
			if got := line.Cross(pair[0], pair[1]); got != c.want {
				t.Errorf("Cross(%v, %v) = %v", pair[0], pair[1], got)
			}
		}
	}
}

func TestCrossOfWrongPoints(t *testing.T) { // P5.5
	cross := pts(0, 9, 9, 0)
	for _, p := range wrongPoints() {
		for _, l := range [][]api.Point{{p, pt(0, 0), pt(9, 9)}, {pt(0, 0), p, pt(9, 9), pt(0, 0)}, {pt(0, 0), pt(9, 9), p}, {p}, {p, p}, {pt(0, 0), p}, {p, p, pt(0, 0), pt(9, 9), p}} {
			if line.Cross(l, cross) || line.Cross(cross, l) || line.Cross(l, l) {
				t.Errorf("Cross of %v", l)
			}
		}
	}
	if !line.Cross(pts(0, 0, 9, 9), cross) {
		t.Error("right points")
	}
}

func checkCross(t *testing.T, l, m []api.Point) {
	t.Helper()
	before, other := slices.Clone(l), slices.Clone(m)
	if got := line.Cross(l, m); got != wantCross(l, m) {
		t.Fatalf("Cross(%v, %v) = %v", l, m, got)
	}
	if !slices.Equal(l, before) || !slices.Equal(m, other) { // R3
		t.Fatal("Cross changes its arguments")
	}
}

func TestCrossOfManyLists(t *testing.T) { // P5.5
	everyList(grid(3), 4, func(l []api.Point) {
		checkCross(t, l[:2], l[2:])
	})
	everyList(pts(0, 0, 0, 1, 1, 0, 1, 1, 0, 2), 6, func(l []api.Point) {
		checkCross(t, l[:3], l[3:])
	})
	r := rand.New(rand.NewSource(6))
	crossing := 0
	for range 20000 {
		limit := limits[r.Intn(len(limits))]
		l, m := randomWalk(r, 1+r.Intn(6), limit-limit/2), randomWalk(r, 1+r.Intn(6), limit-limit/2)
		if r.Intn(2) == 0 {
			m[0] = l[r.Intn(len(l))]
		}
		switch r.Intn(4) {
		case 0:
			m = append(m, l[0])
		case 1:
			m = append(m, l[len(l)-1])
		case 2:
			m = append(m, m[0])
		}
		checkCross(t, l, m)
		if wantCross(l, m) {
			crossing++
		}
	}
	if crossing < 5000 || crossing > 18000 {
		t.Errorf("%d of 20000 cross", crossing)
	}
}

func TestCrossOfLongLists(t *testing.T) { // P5.5
	// The limit of Check doesn't hold here.
	l, m := make([]api.Point, 0, 1500), make([]api.Point, 0, 1500)
	for i := range 1500 {
		l, m = append(l, pt(10*i, i%2)), append(m, pt(10*i, 2+i%2))
	}
	if line.Cross(l, m) {
		t.Error("they do not meet")
	}
	if m = append(m, pt(14985, 0)); !line.Cross(l, m) || !line.Cross(m, l) {
		t.Error("their last segments cross")
	}
	if m = append(m[:1500], l[1499]); line.Cross(l, m) || line.Cross(m, l) {
		t.Error("they have a common end")
	}
}

func TestReverse(t *testing.T) { // P5.6
	for _, c := range []struct{ l, want []api.Point }{
		{nil, nil},
		{[]api.Point{}, nil},
		{pts(1, 2), pts(1, 2)},
		{pts(1, 2, 3, 4), pts(3, 4, 1, 2)},
		{pts(1, 2, 3, 4, 5, 6), pts(5, 6, 3, 4, 1, 2)},
		{pts(1, 2, 1, 2, 5, 6), pts(5, 6, 1, 2, 1, 2)},
		{pts(most, least, 0, 0), pts(0, 0, most, least)},
	} {
		before := slices.Clone(c.l)
		got := line.Reverse(c.l)
		if !slices.Equal(got, c.want) {
			t.Errorf("Reverse(%v) = %v", c.l, got)
		}
		// R3
		if !slices.Equal(c.l, before) {
			t.Errorf("Reverse changes %v into %v", before, c.l)
		}
		for i := range got {
			got[i] = pt(-77, -77)
		}
		if !slices.Equal(c.l, before) {
			t.Errorf("Reverse(%v) shares memory with its argument", before)
		}
	}
	if got := line.Reverse(walk(1000)); len(got) != 1000 || got[0] != pt(9990, 1) || got[999] != pt(0, 0) {
		t.Error("a long list")
	}
}

func TestSame(t *testing.T) { // P5.6
	for _, c := range []struct {
		l, m []api.Point
		want bool
	}{
		{nil, nil, true},
		{nil, []api.Point{}, true}, // R1
		{nil, pts(0, 0), false},
		{pts(1, 2), pts(1, 2), true},
		{pts(1, 2), pts(2, 1), false},
		{pts(1, 2), pts(1, 3), false},
		{pts(1, 2), pts(0, 2), false},
		{pts(1, 2, 3, 4), pts(1, 2, 3, 4), true},
		{pts(1, 2, 3, 4), pts(3, 4, 1, 2), false},
		{pts(1, 2, 3, 4), pts(1, 2), false},
		{pts(1, 2, 3, 4), pts(3, 4), false},
		{pts(1, 2, 3, 4, 5, 6), pts(1, 2, 3, 5, 5, 6), false},
		{pts(1, 2, 3, 4, 5, 6), pts(1, 2, 3, 4, 5, 7), false},
		{pts(0, 0), pts(0, 0, 0, 0), false},
		{pts(most, least), pts(most, least), true},
		{pts(most, least), pts(least, most), false},
		{walk(1000), walk(1000), true},
		{walk(1000), walk(1001), false},
	} {
		if line.Same(c.l, c.m) != c.want || line.Same(c.m, c.l) != c.want {
			t.Errorf("Same(%v, %v) isn't %v", c.l, c.m, c.want)
		}
	}
}

// someLine draws a line.
func someLine(r *rand.Rand, limit int) []api.Point {
	for {
		l := randomWalk(r, 2+r.Intn(7), limit)
		if r.Intn(2) == 0 {
			l = append(l, l[0])
		}
		if line.Check(l) == api.OK {
			return l
		}
	}
}

func TestReversedLines(t *testing.T) { // P5.7
	r := rand.New(rand.NewSource(7))
	for range 5000 {
		limit := limits[r.Intn(len(limits))] / 2
		l, p, n := someLine(r, limit), sample.RandomPoint(r, limit), r.Intn(50)
		reversed := line.Reverse(l)
		if line.Check(reversed) != api.OK {
			t.Fatalf("Reverse(%v) is no line", l)
		}
		if line.Length(l) != line.Length(reversed) || line.Closed(l) != line.Closed(reversed) {
			t.Fatalf("Reverse(%v) is shorter or longer, or only one is closed", l)
		}
		if line.Within(l, p, n) != line.Within(reversed, p, n) {
			t.Fatalf("Within(%v, %v, %d) = %v, but not for Reverse", l, p, n, line.Within(l, p, n))
		}
		if twice := line.Reverse(reversed); !line.Same(l, twice) {
			t.Fatalf("Reverse twice is %v, of %v", twice, l)
		}
	}
}

func TestCrossInAnyOrder(t *testing.T) { // P5.7
	r := rand.New(rand.NewSource(8))
	for range 5000 {
		l, m := someLine(r, 1+r.Intn(4)), someLine(r, 1+r.Intn(4))
		if r.Intn(2) == 0 {
			by := point.Sub(l[r.Intn(len(l))], m[0])
			for i := range m {
				m[i] = point.Add(m[i], by)
			}
		}
		want := line.Cross(l, m)
		back, forth := line.Reverse(l), line.Reverse(m)
		for _, c := range [][2][]api.Point{{l, forth}, {back, m}, {back, forth}, {m, l}, {m, back}, {forth, l}, {forth, back}} {
			if got := line.Cross(c[0], c[1]); got != want {
				t.Fatalf("Cross(%v, %v) = %v, but %v in another order", l, m, want, got)
			}
		}
	}
}

// facts are what the package says of two lists, five points and a number.
type facts struct {
	check, other                       api.Errno
	closed, within, in, touches, cross bool
}

func factsOf(l, m, p []api.Point, n int) facts {
	return facts{
		check:   line.Check(l),
		other:   line.Check(m),
		closed:  line.Closed(l),
		within:  line.Within(l, p[0], n),
		in:      line.In(p[0], p[1], p[2], p[3]),
		touches: line.Touches(p[0], p[1], p[2], p[3], p[4]),
		cross:   line.Cross(l, m),
	}
}

func TestTurnedAndMovedPoints(t *testing.T) { // P5.7
	r := rand.New(rand.NewSource(9))
	for range 5000 {
		limit := []int{1, 2, 4, 30, far / 2}[r.Intn(5)]
		l, m, p, n := randomWalk(r, 2+r.Intn(6), limit/2), randomWalk(r, 2+r.Intn(6), limit/2), sample.RandomList(r, 5, limit), r.Intn(40)
		by, turns := sample.RandomPoint(r, far/2-20), r.Intn(9)-4
		move := func(l []api.Point) []api.Point {
			moved := make([]api.Point, len(l))
			for i, q := range l {
				moved[i] = point.Add(point.Turn(q, turns), by)
			}
			return moved
		}
		if got, want := factsOf(move(l), move(m), move(p), n), factsOf(l, m, p, n); got != want {
			t.Fatalf("%v, %v, %v, %d: %v, but turned %d times and moved by %v: %v", l, m, p, n, want, turns, by, got)
		}
		// Distances of whole numbers stay, although squares are rounded.
		if got, want := line.Length(move(l)), line.Length(l); got != want {
			t.Fatalf("Length(%v) = %d, but turned and moved it is %d", l, want, got)
		}
	}
}

func TestCornersAndOrders(t *testing.T) { // P5.8
	r := rand.New(rand.NewSource(10))
	for range 20000 {
		l := sample.RandomList(r, 4, limits[r.Intn(len(limits))])
		a, b, c, p := l[0], l[1], l[2], l[3]
		for _, corner := range []api.Point{a, b, c} {
			if !line.In(a, b, c, corner) {
				t.Fatalf("the corner %v isn't in the triangle of %v", corner, l[:3])
			}
		}
		want := line.In(a, b, c, p)
		for _, o := range [][3]api.Point{{a, c, b}, {b, a, c}, {b, c, a}, {c, a, b}, {c, b, a}} {
			if got := line.In(o[0], o[1], o[2], p); got != want {
				t.Fatalf("In of %v = %v, but %v in another order", l, want, got)
			}
		}
	}
}

func TestTouchesAndIn(t *testing.T) { // P5.8
	r := rand.New(rand.NewSource(11))
	inside, apart := 0, 0
	for range 20000 {
		l := sample.RandomList(r, 5, limits[r.Intn(len(limits))])
		a, b, c, d, e := l[0], l[1], l[2], l[3], l[4]
		touches := line.Touches(a, b, c, d, e)
		for _, end := range []api.Point{d, e} {
			if line.In(a, b, c, end) && end != a && end != c {
				inside++
				if !touches {
					t.Fatalf("Touches of %v = false, but %v is in the triangle", l, end)
				}
			}
		}
		if !point.Near(point.Box(l[:3]), point.Box(l[3:])) {
			apart++
			if touches {
				t.Fatalf("Touches of %v = true, but the boxes are apart", l)
			}
		}
	}
	if inside < 1000 || apart < 1000 {
		t.Errorf("%d ends are inside, %d boxes apart", inside, apart)
	}
}

func TestWithinForGreaterNumbers(t *testing.T) { // P5.9
	r := rand.New(rand.NewSource(12))
	for range 2000 {
		limit := limits[r.Intn(4)]
		l, p := sample.RandomList(r, 2+r.Intn(4), limit), sample.RandomPoint(r, limit)
		on := false
		for i := 1; i < len(l); i++ {
			on = on || point.On(l[i-1], l[i], p)
		}
		if got := line.Within(l, p, 0); got != on {
			t.Fatalf("Within(%v, %v, 0) = %v, but on the line: %v", l, p, got, on)
		}
		was := false
		for n := -3; n < 200; n++ {
			is := line.Within(l, p, n)
			if was && !is || n < 0 && is {
				t.Fatalf("Within(%v, %v, %d) = %v, and for 1 less %v", l, p, n, is, was)
			}
			was = is
		}
	}
}

func TestAnyArguments(t *testing.T) { // P1
	numbers := []int{0, 1, -1, 2, 10, far, -far, far + 1, 1 << 31, 1 << 32, 1 << 60, -1 << 60, 1 << 62, most, least}
	r := rand.New(rand.NewSource(13))
	pick := func() int { return numbers[r.Intn(len(numbers))] }
	list := func() []api.Point {
		l := make([]api.Point, r.Intn(8))
		for i := range l {
			l[i] = pt(pick(), pick())
		}
		return l
	}
	for range 50000 {
		l, m, p := list(), list(), append(list(), make([]api.Point, 5)...)
		line.Check(l)
		line.Closed(l)
		line.Length(l)
		line.Within(l, p[0], pick())
		line.In(p[0], p[1], p[2], p[3])
		line.Touches(p[0], p[1], p[2], p[3], p[4])
		line.Cross(l, m)
		line.Reverse(l)
		line.Same(l, m)
	}
}

func TestLargeArguments(t *testing.T) { // P1
	l := make([]api.Point, 1<<20)
	for i := range l {
		l[i] = pt(i&1023, i>>10)
	}
	if got := line.Check(l); got != api.ErrMany {
		t.Errorf("Check: %v", got)
	}
	steps := 1<<20 - 1<<10
	if got, want := line.Length(l), steps+1023*exact.Sqrt(1023*1023+1); got != want {
		t.Errorf("Length: %d, want %d", got, want)
	}
	if line.Closed(l) || !line.Within(l, pt(1023, 1024), 4) || line.Within(l, pt(1023, 1025), 15) {
		t.Error("Closed or Within")
	}
	if line.Cross(l, pts(0, 1024, 9, 1030)) {
		t.Error("Cross")
	}
	if back := line.Reverse(l); line.Same(l, back) || !line.Same(l, line.Reverse(back)) {
		t.Error("Reverse or Same")
	}
}
