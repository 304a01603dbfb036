package network_test

import (
	"math/rand"
	"slices"
	"testing"

	"hachure/api"
	"hachure/line"
	"hachure/network"
	"hachure/point"
	"hachure/sample"
)

func checkCheck(t *testing.T, ways []api.Way, want api.Errno) {
	t.Helper()
	unchanged(t, ways, func() {
		if got := network.Check(ways); got != want {
			t.Fatalf("Check(%v) = %v, want %v", ways, got, want)
		}
	})
}

func TestCheckExamples(t *testing.T) { // P8.1
	one, two, three, four := example()
	checkCheck(t, []api.Way{one, two}, api.OK)
	checkCheck(t, []api.Way{one, three}, api.ErrLevel)
	checkCheck(t, []api.Way{one, four}, api.OK)
	checkCheck(t, []api.Way{one, two, four}, api.OK)
	checkCheck(t, []api.Way{one, two, three, four}, api.ErrLevel)
	checkCheck(t, nil, api.OK)
	checkCheck(t, []api.Way{}, api.OK)
	checkCheck(t, []api.Way{{}}, api.ErrArg)
}

func TestCheckMany(t *testing.T) { // P8.1
	checkCheck(t, apart(79), api.OK)
	checkCheck(t, apart(80), api.OK)
	checkCheck(t, apart(81), api.ErrMany)
	checkCheck(t, apart(50000), api.ErrMany)
	checkCheck(t, make([]api.Way, 80), api.ErrArg)
	checkCheck(t, make([]api.Way, 81), api.ErrMany)
}

func TestCheckIds(t *testing.T) { // P8.1
	for _, id := range []int{0, -1, least, least + 1, -1 << 32} {
		for i := range 3 {
			ways := apart(3)
			ways[i].Id = id
			checkCheck(t, ways, api.ErrArg)
		}
	}
	for _, id := range []int{4, 1<<30 + 1, 1<<32 + 1, most} {
		ways := apart(3)
		ways[1].Id = id
		checkCheck(t, ways, api.OK)
		ways[2].Id = id
		checkCheck(t, ways, api.ErrTwice)
		ways[0].Id, ways[1].Id = id, 1
		checkCheck(t, ways, api.ErrTwice)
	}
}

func TestCheckLines(t *testing.T) { // P8.1
	for _, l := range [][]api.Point{
		nil,
		pts(3, 3),
		zigzag(41),
		pts(0, 0, far+1, 0),
		pts(0, 0, 0, -far-1),
		pts(0, 0, 0, 0),
		pts(0, 0, 9, 0, 5, 0),
		pts(0, 0, 9, 0, 9, 9, 5, -5),
	} {
		errno := line.Check(l)
		if errno == api.OK {
			t.Fatalf("%v is a line", l)
		}
		for i := range 3 {
			ways := apart(3)
			ways[i].Line = l
			checkCheck(t, ways, errno)
		}
	}
	for _, l := range [][]api.Point{
		zigzag(2),
		zigzag(40),
		pts(-far, -far, far, far),
		pts(0, 0, 9, 0, 9, 9, 0, 0),
	} {
		checkCheck(t, []api.Way{{Id: 1, Line: l, Weight: 1}}, api.OK)
	}
}

func TestCheckRange(t *testing.T) { // P8.1
	for _, n := range []int{-2, -1, 0, 1, 2} {
		checkCheck(t, []api.Way{way(1, n, 0, 0, 1, 1)}, api.OK)
	}
	for _, n := range []int{-3, 3, 1 << 32, -1 << 32, most, least} {
		checkCheck(t, []api.Way{way(1, n, 0, 0, 1, 1)}, api.ErrRange)
	}
	for i := range 2 {
		for _, n := range []int{1, 2, 128, 254, 255} {
			ways := apart(2)
			ways[i].Weight = n
			checkCheck(t, ways, api.OK)
		}
		for _, n := range []int{0, -1, 256, 1<<32 + 1, most, least} {
			ways := apart(2)
			ways[i].Weight = n
			checkCheck(t, ways, api.ErrRange)
		}
	}
}

func TestCheckLevels(t *testing.T) { // P8.1
	for name, c := range map[string]struct {
		a, b api.Way
		want api.Errno
	}{
		"far from each other":  {way(1, 0, 0, 0, 9, 0), way(2, 0, 0, 5, 9, 5), api.OK},
		"one end":              {way(1, 0, 0, 0, 9, 0), way(2, 0, 9, 0, 9, 9), api.OK},
		"both ends":            {way(1, 0, 0, 0, 9, 0), way(2, 0, 0, 0, 5, 5, 9, 0), api.OK},
		"crossing":             {way(1, 0, 0, 0, 9, 0), way(2, 0, 5, -1, 5, 1), api.ErrLevel},
		"an end between ends":  {way(1, 0, 0, 0, 9, 0), way(2, 0, 5, 0, 5, 5), api.ErrLevel},
		"an end at a corner":   {way(1, 0, 0, 0, 5, 5, 9, 0), way(2, 0, 5, 5, 5, 9), api.ErrLevel},
		"corners":              {way(1, 0, 0, 0, 5, 5, 9, 0), way(2, 0, 0, 9, 5, 5, 9, 9), api.ErrLevel},
		"one over the other":   {way(1, 0, 0, 0, 9, 0), way(2, 0, 0, 0, 9, 0), api.ErrLevel},
		"partly over":          {way(1, 0, 0, 0, 9, 0), way(2, 0, 9, 0, 5, 0), api.ErrLevel},
		"an end and a point":   {way(1, 0, 0, 0, 9, 0), way(2, 0, 0, 0, 0, 5, 5, -5), api.ErrLevel},
		"a closed line's end":  {way(1, 0, 0, 0, 9, 0), way(2, 0, 0, 0, -9, 0, -9, 9, 0, 0), api.OK},
		"a closed line's edge": {way(1, 0, -9, 0, 9, 0), way(2, 0, 0, 0, -5, 5, 5, 5, 0, 0), api.ErrLevel},
	} {
		for level := -2; level <= 2; level++ {
			for other := -2; other <= 2; other++ {
				want := api.OK
				if level == other {
					want = c.want
				}
				a, b := changed(c.a, func(w *api.Way) { w.Level = level }), changed(c.b, func(w *api.Way) { w.Level = other })
				t.Log(name)
				checkCheck(t, []api.Way{a, b}, want)
				checkCheck(t, []api.Way{b, a}, want)
				checkCheck(t, []api.Way{a, way(9, level, 90, 90, 99, 99), reversed(b)}, want)
			}
		}
	}
}

func TestCheckOtherFields(t *testing.T) { // P8.1
	one, two, _, four := example()
	ways := []api.Way{one, two, four}
	for i := range ways {
		ways[i].Class, ways[i].Name, ways[i].Stairs, ways[i].District = "\xff?", "no, name; it is\n", i == 1, least+i
	}
	checkCheck(t, ways, api.OK)
}

// faults are what can be wrong with a way, in the order of P8.1. Without others, the way is 1 of the example, after its way 2.
var faults = []struct {
	errno  api.Errno
	change func(*api.Way)
}{
	{api.ErrArg, func(w *api.Way) { w.Id = 0 }},
	{api.ErrTwice, func(w *api.Way) { w.Id = 2 }},
	{api.ErrMany, func(w *api.Way) { w.Line = append(w.Line, make([]api.Point, 40)...) }},
	{api.ErrPoint, func(w *api.Way) { w.Line = append(w.Line, pt(0, far+1)) }},
	{api.ErrLine, func(w *api.Way) { w.Line = append(w.Line, pt(5, 0)) }},
	{api.ErrRange, func(w *api.Way) { w.Weight = 0 }},
	{api.ErrLevel, func(w *api.Way) { w.Line = slices.Concat(pts(20, 5), w.Line) }},
}

// faulty returns the way 1 of the example with the faults of a set, and the error of the first one.
func faulty(set int) (api.Way, api.Errno) {
	w, _, _, _ := example()
	want := api.OK
	for i := len(faults) - 1; i >= 0; i-- {
		if set>>i&1 == 1 {
			faults[i].change(&w)
			want = faults[i].errno
		}
	}
	return w, want
}

func TestCheckInOrder(t *testing.T) { // P8.1, R2
	_, two, _, _ := example()
	two.Line = pts(10, 0, 10, 10, 0, 10)
	for set := range 1 << len(faults) {
		w, want := faulty(set)
		ways := []api.Way{two, w}
		if got := wantCheck(ways); got != want {
			t.Fatalf("the faults %b are wrong: %v, want %v", set, got, want)
		}
		checkCheck(t, ways, want)
	}
}

func TestCheckWayByWay(t *testing.T) { // P8.1, R2
	_, two, _, _ := example()
	two.Line = pts(10, 0, 10, 10, 0, 10)
	for i := range faults {
		for j := range faults {
			first, want := faulty(1 << i)
			second, _ := faulty(1 << j)
			checkCheck(t, []api.Way{two, first, second}, want)
			checkCheck(t, []api.Way{two, way(9, 0, 90, 90, 99, 99), first, second, {}}, want)
		}
	}
}

func TestCheckOfManyWays(t *testing.T) { // P8.1
	count := map[api.Errno]int{}
	manyWays(31, 20000, func(r *rand.Rand, ways []api.Way) {
		want := wantCheck(ways)
		checkCheck(t, ways, want)
		count[want]++
	})
	for _, errno := range []api.Errno{api.OK, api.ErrTwice, api.ErrMany, api.ErrPoint, api.ErrLine, api.ErrLevel} {
		if count[errno] < 30 {
			t.Errorf("only %d times %v", count[errno], errno)
		}
	}
}

// spoil changes a right network a little, which mostly makes it wrong.
func spoil(r *rand.Rand, ways []api.Way) []api.Way {
	ways = cloneWays(ways)
	w, other := &ways[r.Intn(len(ways))], ways[r.Intn(len(ways))]
	switch r.Intn(7) {
	case 0:
		w.Level = other.Level
	case 1:
		w.Id = other.Id
	case 2:
		w.Id = -w.Id
	case 3:
		w.Weight = []int{0, 256}[r.Intn(2)]
	case 4:
		w.Level += 3 - 6*r.Intn(2)
	case 5:
		k := r.Intn(len(w.Line))
		w.Line[k] = point.Add(w.Line[k], sample.RandomPoint(r, 3))
	case 6:
		ways = append(ways, randomWay(r, len(ways)+100, 12))
	}
	return ways
}

func TestCheckOfSpoiledNetworks(t *testing.T) { // P8.1
	count := map[api.Errno]int{}
	networks(t, 32, 1000, func(r *rand.Rand, ways []api.Way) {
		checkCheck(t, ways, api.OK)
		checkCheck(t, disordered(r, ways), api.OK)
		for range 5 {
			spoiled := spoil(r, ways)
			want := wantCheck(spoiled)
			checkCheck(t, spoiled, want)
			count[want]++
		}
	})
	for _, errno := range []api.Errno{api.OK, api.ErrArg, api.ErrTwice, api.ErrMany, api.ErrLine, api.ErrRange, api.ErrLevel} {
		if count[errno] < 50 {
			t.Errorf("only %d times %v", count[errno], errno)
		}
	}
}

// onlyStops reports whether all common points of both ways, of one level, are stops of both.
func onlyStops(a, b api.Way) bool {
	for i := range len(a.Line) - 1 {
		for j := range len(b.Line) - 1 {
			p, q, s, u := a.Line[i], a.Line[i+1], b.Line[j], b.Line[j+1]
			n := point.Meet(p, q, s, u)
			first, last := network.Stops(a)
			for _, stop := range slices.Compact([]api.Stop{first, last}) {
				from, to := network.Stops(b)
				if (stop == from || stop == to) && point.On(p, q, stop.At) && point.On(s, u, stop.At) {
					n--
				}
			}
			if n != 0 {
				return false
			}
		}
	}
	return true
}

func TestRightNetworks(t *testing.T) { // P8.7
	joined := 0
	networks(t, 33, 600, func(r *rand.Rand, ways []api.Way) {
		if network.Check(ways) != api.OK {
			t.Fatalf("%v is not right", ways)
		}
		for i, a := range ways {
			for _, b := range ways[:i] {
				if a.Level == b.Level && !onlyStops(a, b) {
					t.Fatalf("%v and %v have a point in common that is no stop", a, b)
				}
				if network.Joined(a, b) {
					joined++
				}
			}
		}
	})
	if joined < 1000 {
		t.Errorf("only %d pairs of joined ways", joined)
	}
}
