package network_test

import (
	"math"
	"math/rand"
	"reflect"
	"slices"
	"testing"

	"hachure/api"
	"hachure/line"
	"hachure/network"
	"hachure/point"
	"hachure/sample"
)

const (
	least = math.MinInt
	most  = math.MaxInt
	far   = api.MaxCoord
)

var (
	pt  = sample.Pt
	pts = sample.Pts
)

// way returns a way that only its line and its level could make wrong.
func way(id, level int, n ...int) api.Way {
	return api.Way{Id: id, Line: pts(n...), Level: level, Weight: 1}
}

// example returns the ways of the chapter's examples.
func example() (one, two, three, four api.Way) {
	return way(1, 0, 0, 0, 10, 0), way(2, 0, 10, 0, 10, 10), way(3, 0, 5, -5, 5, 5), way(4, 1, 5, -5, 5, 5)
}

// apart returns n ways that have no points in common.
func apart(n int) []api.Way {
	ways := make([]api.Way, n)
	for i := range ways {
		ways[i] = way(i+1, 0, i%100, 2*(i/100), i%100, 2*(i/100)+1)
	}
	return ways
}

// zigzag returns n points that make up a line.
func zigzag(n int) []api.Point {
	l := make([]api.Point, n)
	for i := range l {
		l[i] = pt(10*i, i%2)
	}
	return l
}

// changed returns w after a change, in memory of its own.
func changed(w api.Way, change func(*api.Way)) api.Way {
	w.Line = slices.Clone(w.Line)
	change(&w)
	return w
}

func cloneWays(ways []api.Way) []api.Way {
	l := slices.Clone(ways)
	for i := range l {
		l[i].Line = slices.Clone(l[i].Line)
	}
	return l
}

// unchanged runs a call, and then compares ways with what they were before, R3.
func unchanged(t *testing.T, ways []api.Way, call func()) {
	t.Helper()
	before := cloneWays(ways)
	call()
	if !reflect.DeepEqual(ways, before) {
		t.Fatalf("%v have become %v", before, ways)
	}
}

// reversed returns w in the other direction.
func reversed(w api.Way) api.Way {
	return changed(w, func(w *api.Way) { slices.Reverse(w.Line) })
}

// disordered returns ways in another order, some of them in the other direction.
func disordered(r *rand.Rand, ways []api.Way) []api.Way {
	l := make([]api.Way, len(ways))
	for i, j := range r.Perm(len(ways)) {
		l[i] = ways[j]
		if r.Intn(2) == 0 {
			l[i] = reversed(l[i])
		}
	}
	return l
}

// randomWay draws a way of up to 4 points, which need not be a right one, but which is often joined to others.
func randomWay(r *rand.Rand, id, limit int) api.Way {
	return api.Way{
		Id: id, Line: sample.RandomList(r, r.Intn(5), limit), Level: r.Intn(3) - 1, Weight: 1 + r.Intn(api.MaxWeight),
		Class: []string{"", "path"}[r.Intn(2)], Name: []string{"", "Mill Lane"}[r.Intn(2)], Stairs: r.Intn(2) == 0, District: r.Intn(3),
	}
}

// randomWays draws ways of any kind, with different Ids or not.
func randomWays(r *rand.Rand, n, limit int) []api.Way {
	ways := make([]api.Way, n)
	different := r.Intn(2) == 0
	for i, id := range r.Perm(n) {
		if !different {
			id = r.Intn(1 + n/3)
		}
		ways[i] = randomWay(r, id+1, limit)
	}
	return ways
}

// manyWays visits lists of random ways, of which few are joined, or nearly all of them.
func manyWays(seed int64, n int, visit func(r *rand.Rand, ways []api.Way)) {
	r := rand.New(rand.NewSource(seed))
	limits := []int{0, 1, 2, 3, 5, 20, far, far + 1, most / 2}
	for range n {
		visit(r, randomWays(r, r.Intn(1+r.Intn(40)), limits[r.Intn(len(limits))]))
	}
}

// randomNetwork draws a right network: of many ways, which often begin where another one ends, those that fit to the ones before.
func randomNetwork(r *rand.Rand) []api.Way {
	var ways []api.Way
	limit := 1 + r.Intn(12)
	for i := range 60 {
		w := randomWay(r, i+1, limit)
		if len(w.Line) > 0 && len(ways) > 0 && r.Intn(3) > 0 {
			before := ways[r.Intn(len(ways))]
			w.Line[0], w.Level = before.Line[len(before.Line)-1], before.Level
		}
		if wantCheck(append(slices.Clone(ways), w)) == api.OK {
			ways = append(ways, w)
		}
	}
	return ways
}

// networks visits random right networks.
func networks(t *testing.T, seed int64, n int, visit func(r *rand.Rand, ways []api.Way)) {
	t.Helper()
	r := rand.New(rand.NewSource(seed))
	for range n {
		ways := randomNetwork(r)
		if len(ways) == 0 {
			t.Fatal("a network without ways")
		}
		visit(r, ways)
	}
}

// sortedIds returns the Ids of ways, increasing.
func sortedIds(ways []api.Way) []int {
	var ids []int
	for _, w := range ways {
		ids = append(ids, w.Id)
	}
	slices.Sort(ids)
	return ids
}

// group returns the index of the group with this Id; -1 if there is none.
func group(groups [][]int, id int) int {
	return slices.IndexFunc(groups, func(l []int) bool { return slices.Contains(l, id) })
}

// sameGroups compares groups; nil and empty ones are equal, R1.
func sameGroups(a, b [][]int) bool {
	return slices.EqualFunc(a, b, slices.Equal[[]int])
}

// wantJoined follows P8.2: both ways have points, and a stop of one is a stop of the other one.
func wantJoined(a, b api.Way) bool {
	if len(a.Line) == 0 || len(b.Line) == 0 || a.Level != b.Level {
		return false
	}
	for _, p := range []api.Point{a.Line[0], a.Line[len(a.Line)-1]} {
		for _, q := range []api.Point{b.Line[0], b.Line[len(b.Line)-1]} {
			if p.X == q.X && p.Y == q.Y {
				return true
			}
		}
	}
	return false
}

// wantGroups puts each way into a group of its own, and then joins groups, two at a time, as long as ways of both are joined.
func wantGroups(ways []api.Way) [][]int {
	set := make([]int, len(ways))
	for i := range set {
		set[i] = i
	}
	for i, a := range ways {
		for j, b := range ways {
			if old := set[j]; set[i] != old && wantJoined(a, b) {
				for k := range set {
					if set[k] == old {
						set[k] = set[i]
					}
				}
			}
		}
	}
	var groups [][]int
	for n := range ways {
		var members []api.Way
		for i, w := range ways {
			if set[i] == n {
				members = append(members, w)
			}
		}
		if len(members) > 0 {
			groups = append(groups, sortedIds(members))
		}
	}
	slices.SortFunc(groups, order)
	return groups
}

// order follows P8.3: the first elements that differ decide, or else the length.
func order(a, b []int) int {
	for i := range min(len(a), len(b)) {
		if a[i] < b[i] {
			return -1
		}
		if a[i] > b[i] {
			return 1
		}
	}
	return len(a) - len(b)
}

// wantCross follows P8.4, with every pair of segments.
func wantCross(a, b api.Way) bool {
	found := false
	for i := 1; i < len(a.Line); i++ {
		for j := 1; j < len(b.Line); j++ {
			if point.Meet(a.Line[i-1], a.Line[i], b.Line[j-1], b.Line[j]) != 0 {
				found = true
			}
		}
	}
	return found && a.Level != b.Level
}

// wantCheck follows P8.1, word by word.
func wantCheck(ways []api.Way) api.Errno {
	if len(ways) > 80 {
		return api.ErrMany
	}
	for i, w := range ways {
		if w.Id < 1 {
			return api.ErrArg
		}
		for j := range i {
			if ways[j].Id == w.Id {
				return api.ErrTwice
			}
		}
		if errno := line.Check(w.Line); errno != api.OK {
			return errno
		}
		if w.Level < -2 || w.Level > 2 || w.Weight < 1 || w.Weight > 255 {
			return api.ErrRange
		}
		for j := range i {
			if ways[j].Level == w.Level && line.Cross(ways[j].Line, w.Line) {
				return api.ErrLevel
			}
		}
	}
	return api.OK
}

func checkStops(t *testing.T, w api.Way, wantFirst, wantLast api.Stop) {
	t.Helper()
	unchanged(t, []api.Way{w}, func() {
		if first, last := network.Stops(w); first != wantFirst || last != wantLast {
			t.Fatalf("Stops(%v) = %v, %v, want %v, %v", w, first, last, wantFirst, wantLast)
		}
	})
}

func TestStops(t *testing.T) { // P8.2
	_, two, _, four := example()
	checkStops(t, two, api.Stop{At: pt(10, 0)}, api.Stop{At: pt(10, 10)})
	checkStops(t, reversed(two), api.Stop{At: pt(10, 10)}, api.Stop{At: pt(10, 0)})
	checkStops(t, four, api.Stop{At: pt(5, -5), Level: 1}, api.Stop{At: pt(5, 5), Level: 1})
	checkStops(t, way(1, -2, 0, 0, 9, 0, 9, 9, 0, 0), api.Stop{Level: -2}, api.Stop{Level: -2})
	checkStops(t, way(1, -2, 1, 2, 3, 4, 5, 6), api.Stop{At: pt(1, 2), Level: -2}, api.Stop{At: pt(5, 6), Level: -2})
	checkStops(t, way(0, 1, 3, 4), api.Stop{At: pt(3, 4), Level: 1}, api.Stop{At: pt(3, 4), Level: 1})
	checkStops(t, way(-1, least, least, most, most, least), api.Stop{At: pt(least, most), Level: least}, api.Stop{At: pt(most, least), Level: least})
	checkStops(t, api.Way{Id: 1, Level: 2}, api.Stop{}, api.Stop{})
	checkStops(t, api.Way{Id: 1, Level: 2, Line: []api.Point{}}, api.Stop{}, api.Stop{})
}

func checkJoined(t *testing.T, a, b api.Way, want bool) {
	t.Helper()
	unchanged(t, []api.Way{a, b}, func() {
		if got := network.Joined(a, b); got != want {
			t.Fatalf("Joined(%v, %v) = %v", a, b, got)
		}
	})
}

func TestJoinedExamples(t *testing.T) { // P8.2
	one, two, three, four := example()
	checkJoined(t, one, two, true)
	checkJoined(t, one, four, false)
	checkJoined(t, one, three, false)
	checkJoined(t, three, four, false)
	checkJoined(t, way(1, 1, 0, 0, 9, 0), way(2, 1, 5, 5, 9, 0), true)
	checkJoined(t, way(1, 1, 0, 0, 9, 0), way(2, -1, 5, 5, 9, 0), false)
	checkJoined(t, way(1, 0, 0, 0, 9, 0), way(2, 0, 0, 9, 0, 1), false)
	checkJoined(t, way(1, 0, 0, 0, 5, 5, 9, 0), way(2, 0, 5, 5, 5, 9), false)
	checkJoined(t, way(1, 0, 0, 0, 5, 5, 9, 0), way(2, 0, 1, 0, 5, 5, 9, 1), false)
	checkJoined(t, way(1, 0, 0, 0, 9, 0, 9, 9, 0, 0), way(2, 0, 0, -9, 0, 0), true)
	checkJoined(t, way(1, 0, 0, 0, 9, 0, 9, 9, 0, 0), way(2, 0, 9, 0, 20, 0), false)
	checkJoined(t, way(1, most, 3, 3), way(2, most, most, least, 3, 3), true)
	checkJoined(t, way(1, 1, most, least, 0, 0), way(-1, 1, most, least), true)
}

func TestJoinedWithoutPoints(t *testing.T) { // P8.2
	none, empty, origin := api.Way{Id: 1}, api.Way{Id: 2, Line: []api.Point{}}, way(3, 0, 0, 0, 1, 1)
	for _, w := range []api.Way{none, empty} {
		checkJoined(t, w, w, false)
		checkJoined(t, none, w, false)
		checkJoined(t, w, origin, false)
		checkJoined(t, origin, w, false)
		checkJoined(t, w, way(4, 0, 0, 0), false)
	}
}

func TestJoinedOfManyWays(t *testing.T) { // P8.2, P8.5
	count := map[bool]int{}
	manyWays(1, 3000, func(r *rand.Rand, ways []api.Way) {
		for _, a := range ways {
			checkJoined(t, a, a, len(a.Line) > 0)
			checkJoined(t, a, reversed(a), len(a.Line) > 0)
			b := ways[r.Intn(len(ways))]
			want := wantJoined(a, b)
			checkJoined(t, a, b, want)
			checkJoined(t, b, a, want)
			checkJoined(t, reversed(a), b, want)
			checkJoined(t, a, reversed(b), want)
			count[want]++
		}
	})
	if count[false] < 1000 || count[true] < 1000 {
		t.Errorf("joined or not: %v", count)
	}
}

func checkGroups(t *testing.T, ways []api.Way, want [][]int) {
	t.Helper()
	unchanged(t, ways, func() {
		if got := network.Groups(ways); !sameGroups(got, want) {
			t.Fatalf("Groups(%v) = %v, want %v", ways, got, want)
		}
	})
}

func TestGroupsExamples(t *testing.T) { // P8.3
	one, two, three, four := example()
	checkGroups(t, []api.Way{two, four, one}, [][]int{{1, 2}, {4}})
	checkGroups(t, []api.Way{four, three, two, one}, [][]int{{1, 2}, {3}, {4}})
	checkGroups(t, nil, nil)
	checkGroups(t, []api.Way{}, nil)
	checkGroups(t, []api.Way{two}, [][]int{{2}})
	// Joints only at the same level.
	checkGroups(t, []api.Way{way(1, 0, 0, 0, 1, 0), way(2, 1, 1, 0, 2, 0), way(3, 1, 2, 0, 3, 0)}, [][]int{{1}, {2, 3}})
	// Levels are not bounded.
	checkGroups(t, []api.Way{way(7, most, 0, 0, 1, 0), way(5, most, 1, 0), way(6, least, 1, 0)}, [][]int{{5, 7}, {6}})
	// Only stops join, and no inner points.
	checkGroups(t, []api.Way{way(1, 0, 0, 0, 1, 1, 2, 0), way(2, 0, 1, 1, 1, 5)}, [][]int{{1}, {2}})
	// The way 4 joins two groups that there were before it.
	checkGroups(t, []api.Way{way(1, 0, 0, 0, 1, 0), way(3, 0, 5, 0, 6, 0), way(4, 0, 6, 0, 1, 0), way(2, 0, 8, 8, 9, 9)}, [][]int{{1, 3, 4}, {2}})
}

func TestGroupsWithoutPoints(t *testing.T) { // P8.3, P8.6
	checkGroups(t, []api.Way{{Id: 2}, {Id: 1}, way(3, 0, 0, 0, 1, 1), {Id: 2, Line: []api.Point{}}}, [][]int{{1}, {2}, {2}, {3}})
	checkGroups(t, []api.Way{{}}, [][]int{{0}})
	checkGroups(t, []api.Way{{Id: 4}, way(3, 0, 0, 0), way(2, 0, 0, 0, 5, 5, 0, 0)}, [][]int{{2, 3}, {4}})
}

func TestGroupsInOrder(t *testing.T) { // P8.3
	// at joins ways with the same number.
	at := func(n, id int) api.Way { return way(id, 0, n, 0) }
	for _, c := range []struct {
		ways []api.Way
		want [][]int
	}{
		{[]api.Way{at(1, 9), at(1, 10), at(2, 9), at(2, 2)}, [][]int{{2, 9}, {9, 10}}},
		{[]api.Way{at(1, 5), at(1, 1), at(2, 4), at(2, 1), at(3, 1), at(3, 6), at(3, 3)}, [][]int{{1, 3, 6}, {1, 4}, {1, 5}}},
		{[]api.Way{at(1, 2), at(1, 1), at(2, 1), at(3, 1), at(3, 2), at(3, 3)}, [][]int{{1}, {1, 2}, {1, 2, 3}}},
		{[]api.Way{at(1, 7), at(1, 7), at(2, 7), at(3, 7)}, [][]int{{7}, {7}, {7, 7}}},
		{[]api.Way{at(1, most), at(2, least), at(2, most), at(3, 0), at(4, -1)}, [][]int{{least, most}, {-1}, {0}, {most}}},
	} {
		r := rand.New(rand.NewSource(2))
		for range 20 {
			checkGroups(t, disordered(r, c.ways), c.want)
		}
	}
}

func TestGroupsOfManyWays(t *testing.T) { // P8.3
	several, large := 0, 0
	manyWays(3, 6000, func(r *rand.Rand, ways []api.Way) {
		want := wantGroups(ways)
		checkGroups(t, ways, want)
		if len(want) > 1 {
			several++
		}
		if slices.ContainsFunc(want, func(l []int) bool { return len(l) > 5 }) {
			large++
		}
	})
	if several < 1000 || large < 200 {
		t.Errorf("only %d times several groups, and %d times a large one", several, large)
	}
}

func TestGroupsHaveTheirOwnMemory(t *testing.T) { // R3
	_, two, _, four := example()
	ways := []api.Way{{Id: 3}, {Id: 5}, two, four, way(9, 0, 20, 20)}
	want := [][]int{{2}, {3}, {4}, {5}, {9}}
	groups, again := network.Groups(ways), network.Groups(ways)
	for i := range groups {
		groups[i] = append(groups[i], -1, -2, -3)
		groups[i][0] = 7
	}
	for i, l := range groups {
		if !slices.Equal(l, []int{7, -1, -2, -3}) {
			t.Errorf("the group %d has become %v", i, l)
		}
	}
	if !sameGroups(again, want) {
		t.Errorf("groups of an earlier call have become %v", again)
	}
	checkGroups(t, ways, want)
}

func TestEachWayInOneGroup(t *testing.T) { // P8.6
	manyWays(4, 3000, func(r *rand.Rand, ways []api.Way) {
		groups := network.Groups(ways)
		all := slices.Concat(groups...)
		slices.Sort(all)
		if !slices.Equal(all, sortedIds(ways)) {
			t.Fatalf("groups of %v: %v", ways, groups)
		}
		checkGroups(t, disordered(r, ways), groups)
	})
}

// differentIds gives each way an Id of its own, from n on.
func differentIds(ways []api.Way, n int) {
	for i := range ways {
		ways[i].Id = n + i
	}
}

func TestJoinedWaysInOneGroup(t *testing.T) { // P8.6
	manyWays(5, 3000, func(r *rand.Rand, ways []api.Way) {
		differentIds(ways, 1)
		groups := network.Groups(ways)
		for _, a := range ways {
			for _, b := range ways {
				if network.Joined(a, b) && group(groups, a.Id) != group(groups, b.Id) {
					t.Fatalf("%v and %v are joined: %v", a, b, groups)
				}
			}
		}
	})
}

func TestFurtherWaysJoinGroups(t *testing.T) { // P8.6
	manyWays(6, 3000, func(r *rand.Rand, ways []api.Way) {
		differentIds(ways, 1)
		all := network.Groups(ways)
		for _, l := range network.Groups(ways[:len(ways)/2]) {
			for _, id := range l {
				if group(all, id) != group(all, l[0]) {
					t.Fatalf("the group %v of the first ways of %v is parted: %v", l, ways, all)
				}
			}
		}
	})
}

func TestGroupsOfSeparateWays(t *testing.T) { // P8.6
	r := rand.New(rand.NewSource(7))
	for range 2000 {
		some, others := randomWays(r, r.Intn(20), 3), randomWays(r, r.Intn(20), 3)
		differentIds(some, 1)
		differentIds(others, 101)
		for i := range others {
			others[i].Level += 3
		}
		want := slices.Concat(network.Groups(some), network.Groups(others))
		slices.SortFunc(want, order)
		checkGroups(t, disordered(r, slices.Concat(some, others)), want)
	}
}

// chain returns n ways, of which each one is joined to the next one, and their Ids.
func chain(n int) ([]api.Way, []int) {
	ways, ids := make([]api.Way, n), make([]int, n)
	for i := range ways {
		ways[i], ids[i] = way(i+1, 0, i, 0, i+1, 0), i+1
	}
	return ways, ids
}

func TestGroupsOfLongChains(t *testing.T) { // P1, P8.3
	ways, ids := chain(200000)
	checkGroups(t, ways, [][]int{ids})
	slices.Reverse(ways)
	checkGroups(t, ways, [][]int{ids})
	checkGroups(t, disordered(rand.New(rand.NewSource(8)), ways), [][]int{ids})
}

func TestGroupsOfManySingleWays(t *testing.T) { // P1, P8.3
	const n = 100000
	ways, want := apart(n), make([][]int, n)
	for i := range ways {
		want[i] = []int{i + 1}
		if i%3 == 0 {
			ways[i].Line = nil
		}
	}
	checkGroups(t, disordered(rand.New(rand.NewSource(9)), ways), want)
}

func checkCross(t *testing.T, a, b api.Way, want bool) {
	t.Helper()
	unchanged(t, []api.Way{a, b}, func() {
		if got := network.Cross(a, b); got != want {
			t.Fatalf("Cross(%v, %v) = %v", a, b, got)
		}
	})
}

func TestCrossExamples(t *testing.T) { // P8.4
	one, two, three, four := example()
	checkCross(t, one, three, false)
	checkCross(t, one, four, true)
	checkCross(t, four, one, true)
	checkCross(t, two, four, false)
	checkCross(t, three, four, true)
	for name, c := range map[string]struct {
		a, b api.Way
		want bool
	}{
		"a common end":           {way(1, 0, 0, 0, 9, 0), way(2, 1, 9, 0, 9, 9), true},
		"an end between ends":    {way(1, 0, 0, 0, 9, 0), way(2, 1, 5, 0, 5, 5), true},
		"partly over":            {way(1, 0, 0, 0, 9, 0), way(2, 1, 8, 0, 20, 0), true},
		"the last segments":      {way(1, 0, 0, 0, 9, 0, 9, 9), way(2, 1, 20, 0, 20, 5, 8, 5), true},
		"just beside":            {way(1, 0, 0, 0, 9, 0, 9, 9), way(2, 1, 20, 0, 20, 5, 10, 5), false},
		"near boxes":             {way(1, 0, 0, 0, 9, 9), way(2, 1, 5, 4, 9, 0), false},
		"one point":              {way(1, 0, 0, 0, 9, 0), way(2, 1, 5, 0), false},
		"the same point twice":   {way(1, 0, 0, 0, 9, 0), way(2, 1, 5, 0, 5, 0), true},
		"single points":          {way(1, 0, 5, 0), way(2, 1, 5, 0), false},
		"equal points twice":     {way(1, 0, 5, 0, 5, 0), way(2, 1, 5, 0, 5, 0), true},
		"no points":              {way(1, 0, -9, 0, 9, 0), way(2, 1), false},
		"no points at all":       {way(1, 0), way(2, 1), false},
		"levels far apart":       {way(1, least, 0, 0, 9, 0), way(2, most, 9, 0, 9, 9), true},
		"the same great level":   {way(1, most, 0, 0, 9, 0), way(2, most, 5, -1, 5, 1), false},
		"not right, but bounded": {way(1, 0, -1<<60, 0, 1<<60, 0), way(2, 1, 5, -1<<60, 5, 1<<60), true},
		"not bounded":            {way(1, 0, -1<<60-1, 0, 1<<60, 0), way(2, 1, 5, -9, 5, 9), false},
		"partly not bounded":     {way(1, 0, least, most, 0, 0, 9, 0), way(2, 1, 5, -9, 5, 9, most, least), true},
		"lines that end oddly":   {way(1, 0, 0, 0, 9, 0, 0, 0), way(2, 1, 5, -9, 5, 9, 5, -9), true},
	} {
		t.Log(name)
		checkCross(t, c.a, c.b, c.want)
		checkCross(t, c.b, c.a, c.want)
		checkCross(t, reversed(c.a), c.b, c.want)
		checkCross(t, c.a, reversed(c.b), c.want)
	}
}

func TestCrossOfManyWays(t *testing.T) { // P8.4, P8.5
	count := map[bool]int{}
	manyWays(10, 3000, func(r *rand.Rand, ways []api.Way) {
		for _, a := range ways {
			checkCross(t, a, a, false)
			b := ways[r.Intn(len(ways))]
			want := wantCross(a, b)
			checkCross(t, a, b, want)
			checkCross(t, b, a, want)
			count[want]++
		}
	})
	if count[false] < 1000 || count[true] < 1000 {
		t.Errorf("crossing or not: %v", count)
	}
}

func TestCrossOfLongWays(t *testing.T) { // P1, P8.4
	a, b := api.Way{Line: zigzag(2000)}, api.Way{Line: zigzag(2000), Level: 1}
	for i := range b.Line {
		b.Line[i].Y += 5
	}
	b.Line[len(b.Line)-1].Y = -5
	checkCross(t, a, b, true)
	checkCross(t, b, a, true)
}

func TestAnyArguments(t *testing.T) { // P1, R3, R4
	numbers := []int{0, 1, -1, 3, far, far + 1, 1 << 37, 1 << 60, 1<<60 + 1, most, least}
	r := rand.New(rand.NewSource(11))
	for range 5000 {
		ways := make([]api.Way, r.Intn(90))
		for i := range ways {
			number := func() int { return numbers[r.Intn(len(numbers))] }
			ways[i] = api.Way{Id: number(), Level: number(), Weight: number(), Class: "?", Name: "\xff", District: number()}
			for range r.Intn(5) {
				ways[i].Line = append(ways[i].Line, pt(number(), number()))
			}
		}
		checkCheck(t, ways, wantCheck(ways))
		checkGroups(t, ways, wantGroups(ways))
		for i := range len(ways) - 1 {
			checkJoined(t, ways[i], ways[i+1], wantJoined(ways[i], ways[i+1]))
			checkCross(t, ways[i], ways[i+1], wantCross(ways[i], ways[i+1]))
		}
	}
}
