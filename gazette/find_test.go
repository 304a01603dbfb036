package gazette_test

import (
	"fmt"
	"math"
	"math/rand"
	"reflect"
	"slices"
	"strings"
	"testing"

	"hachure/api"
	"hachure/gazette"
	"hachure/sample"
)

const (
	least = math.MinInt
	most  = math.MaxInt
)

// example returns the places of the chapter's examples.
func example() []api.Place {
	return []api.Place{
		{Id: 5, Name: "Oak Gate", Weight: 3},
		{Id: 2, Name: "oak", Weight: 3},
		{Id: 7, Name: "Mill", Weight: 9},
		{Id: 4, Name: "OAK GATE", Weight: 3},
		{Id: 6, Weight: 8},
	}
}

// randomName draws a name that is often equal to others, or but for some letters; it may be none.
func randomName(r *rand.Rand) string {
	switch r.Intn(8) {
	case 0:
		return ""
	case 1:
		return randomString(r, tricky, 3)
	case 2:
		return randomString(r, "oO", 4)
	}
	names := []string{"oak", "oak gate", "oak gate 7", "mill", "é", "\xff"}
	return swapped(r, names[r.Intn(len(names))])
}

// randomNumber draws a number that is often equal to others, and far from some.
func randomNumber(r *rand.Rand) int {
	if r.Intn(10) == 0 {
		return []int{least, least + 1, -1, 0, api.MaxWeight, 1 << 32, most - 1, most}[r.Intn(8)]
	}
	return r.Intn(4)
}

// randomPlaces draws up to n places of any kind, with different Ids or not.
func randomPlaces(r *rand.Rand, n int) []api.Place {
	places := make([]api.Place, r.Intn(n+1))
	different := r.Intn(2) == 0
	for i, id := range r.Perm(len(places)) {
		if !different {
			id = randomNumber(r)
		}
		places[i] = api.Place{Id: id, At: sample.RandomPoint(r, most/4), Class: randomName(r), Name: randomName(r), Weight: randomNumber(r), District: randomNumber(r)}
	}
	return places
}

// shuffled returns l in another order.
func shuffled[T any](r *rand.Rand, l []T) []T {
	other := make([]T, len(l))
	for i, j := range r.Perm(len(l)) {
		other[i] = l[j]
	}
	return other
}

// before follows the order of P9.4.
func before(a, b api.Place) bool {
	switch {
	case a.Weight != b.Weight:
		return a.Weight > b.Weight
	case a.Name != b.Name:
		return wantLess(a.Name, b.Name)
	}
	return a.Id < b.Id
}

// wantFind follows P9.4: it takes the first one of all places that are left, again and again.
func wantFind(places []api.Place, prefix string) []int {
	left := slices.Clone(places)
	left = slices.DeleteFunc(left, func(p api.Place) bool {
		return p.Name == "" || !strings.HasPrefix(wantFold(p.Name), wantFold(prefix))
	})
	var ids []int
	for len(left) > 0 {
		first := 0
		for i := range left {
			if before(left[i], left[first]) {
				first = i
			}
		}
		ids = append(ids, left[first].Id)
		left = slices.Delete(left, first, first+1)
	}
	return ids
}

// checkFind calls Find, which changes no places, R3; nil and empty results are equal, R1.
func checkFind(t *testing.T, places []api.Place, prefix string, want ...int) {
	t.Helper()
	before := slices.Clone(places)
	if got := gazette.Find(places, prefix); !slices.Equal(got, want) {
		t.Fatalf("Find(%v, %q) = %v, want %v", before, prefix, got, want)
	}
	if !slices.Equal(places, before) {
		t.Fatalf("%v have become %v", before, places)
	}
}

func TestFindExamples(t *testing.T) { // P9.4
	places := example()
	checkFind(t, places, "oAk", 2, 4, 5)
	checkFind(t, places, "", 7, 2, 4, 5)
	checkFind(t, places, "oak h")
	checkFind(t, places, "OAK G", 4, 5)
	checkFind(t, places, "oak gate", 4, 5)
	checkFind(t, places, "Oak Gate 7")
	checkFind(t, places, "m", 7)
	checkFind(t, places, "ill")
	checkFind(t, places, " ")
	checkFind(t, nil, "")
	checkFind(t, nil, "oak")
	checkFind(t, []api.Place{}, "")
	checkFind(t, []api.Place{{Id: 6}}, "")
	checkFind(t, []api.Place{{Id: 6}}, "x")
}

func TestFindFoldsOnlyLetters(t *testing.T) { // P9.2, P9.4
	var places []api.Place
	for i, name := range []string{"@", "`", "[", "{", "Éa", "éA", "\xc3", "\xff", "A\xff", "a\xfe", "ſ", "\u212a", "k"} {
		places = append(places, api.Place{Id: i, Name: name})
	}
	checkFind(t, places, "@", 0)
	checkFind(t, places, "`", 1)
	checkFind(t, places, "[", 2)
	checkFind(t, places, "{", 3)
	checkFind(t, places, "ÉA", 4)
	checkFind(t, places, "éa", 5)
	// A prefix may end within a letter of more than one byte.
	checkFind(t, places, "\xc3", 6, 4, 5)
	checkFind(t, places, "\xff", 7)
	checkFind(t, places, "a", 9, 8)
	checkFind(t, places, "A\xff", 8)
	checkFind(t, places, "s")
	checkFind(t, places, "K", 12)
	checkFind(t, places, "\x00")
}

func TestFindInOrder(t *testing.T) { // P9.4, P9.7
	r := rand.New(rand.NewSource(4))
	for _, places := range [][]api.Place{
		// By the Weight, whatever the names and the Ids.
		{{Name: "z", Weight: most}, {Name: "y", Weight: 256}, {Name: "x", Weight: 1}, {Name: "w"}, {Name: "v", Weight: -1}, {Name: "u", Weight: least}},
		// By names that differ in letters, or only in capital ones, whatever the Ids.
		{{Name: "A"}, {Name: "a"}, {Name: "Aa"}, {Name: "aA"}, {Name: "AB"}, {Name: "ab"}, {Name: "B"}, {Name: "z"}, {Name: "{"}},
		{{Name: " oak"}, {Name: "_"}, {Name: "MILL"}, {Name: "mill"}, {Name: "Mill 2"}, {Name: "oak"}, {Name: "é"}},
	} {
		n := len(places)
		ids := make([]int, n)
		for i := range places {
			places[i].Id, ids[i] = n-i, n-i
		}
		for range 50 {
			checkFind(t, shuffled(r, places), "", ids...)
		}
	}
	// By the Ids alone.
	same := []api.Place{{Id: most, Name: "x"}, {Id: -1, Name: "x"}, {Id: 0, Name: "x"}, {Id: least, Name: "x"}, {Id: 7, Name: "x"}}
	for range 50 {
		checkFind(t, shuffled(r, same), "X", least, -1, 0, 7, most)
	}
}

func TestFindOfEqualIds(t *testing.T) { // P9.4
	places := []api.Place{{Id: 3, Name: "a"}, {Id: 3, Name: "b", Weight: 2}, {Id: 1, Name: "b", Weight: 1}, {Id: 3, Name: "a"}}
	checkFind(t, places, "", 3, 1, 3, 3)
	checkFind(t, places, "A", 3, 3)
}

func TestFindIgnoresTheRest(t *testing.T) { // P9.4
	checkFind(t, []api.Place{{Id: 1, Class: "oak", Name: "mill", District: 9}, {Id: 2, At: sample.Pt(most, least), Name: "oak"}}, "oak", 2)
	// Names need not be right.
	long := strings.Repeat("x", 100)
	checkFind(t, []api.Place{{Id: 1, Name: long}, {Id: 2, Name: " "}, {Id: 3, Name: `"`}}, "", 2, 3, 1)
	checkFind(t, []api.Place{{Id: 1, Name: long}}, long[1:], 1)
	checkFind(t, []api.Place{{Id: 1, Name: long}}, long+"x")
}

// prefixes returns a prefix of many names, and a longer one.
func prefixes(r *rand.Rand, places []api.Place) (short, long string) {
	if len(places) > 0 && r.Intn(3) > 0 {
		long = places[r.Intn(len(places))].Name
		long = swapped(r, long[:r.Intn(len(long)+1)])
	} else {
		long = randomName(r)
	}
	return swapped(r, long[:r.Intn(len(long)+1)]), long
}

func TestFindOfManyPlaces(t *testing.T) { // P9.4, P9.7
	r := rand.New(rand.NewSource(5))
	several := 0
	for range 5000 {
		places := randomPlaces(r, 30)
		short, long := prefixes(r, places)
		checkFind(t, places, "", wantFind(places, "")...)
		checkFind(t, places, long, wantFind(places, long)...)
		want := wantFind(places, short)
		checkFind(t, places, short, want...)
		checkFind(t, shuffled(r, places), swapped(r, short), want...)
		if len(want) > 2 {
			several++
		}
	}
	if several < 1000 {
		t.Errorf("only %d times several places", several)
	}
}

// different gives each place an Id of its own.
func different(places []api.Place) {
	for i := range places {
		places[i].Id = i + 1
	}
}

func TestLongerPrefixFindsAPart(t *testing.T) { // P9.7
	r := rand.New(rand.NewSource(6))
	fewer := 0
	for range 5000 {
		places := randomPlaces(r, 30)
		different(places)
		short, long := prefixes(r, places)
		found, all := gazette.Find(places, long), gazette.Find(places, short)
		left := slices.DeleteFunc(slices.Clone(all), func(id int) bool { return !slices.Contains(found, id) })
		if !slices.Equal(left, found) {
			t.Fatalf("%v: %q finds %v, and %q finds %v", places, short, all, long, found)
		}
		if len(found) > 1 && len(found) < len(all) {
			fewer++
		}
	}
	if fewer < 300 {
		t.Errorf("only %d times some of several places", fewer)
	}
}

func TestEmptyPrefixFindsAllNames(t *testing.T) { // P9.7
	r := rand.New(rand.NewSource(7))
	for range 2000 {
		places := randomPlaces(r, 30)
		different(places)
		var want []int
		for _, p := range places {
			if p.Name != "" {
				want = append(want, p.Id)
			}
		}
		found := slices.Sorted(slices.Values(gazette.Find(places, "")))
		if !slices.Equal(found, want) {
			t.Fatalf("Find(%v, \"\") = %v", places, found)
		}
	}
}

func TestFindOfVeryManyPlaces(t *testing.T) { // P1, P9.4
	const n = 200000
	places, want := make([]api.Place, n), make([]int, n)
	for i := range places {
		// Every tenth name is the same but for its letters.
		places[i] = api.Place{Id: i, Name: fmt.Sprintf("Oak Gate %06d", i/10), Weight: 5}
		want[i] = i
	}
	checkFind(t, shuffled(rand.New(rand.NewSource(8)), places), "oak", want...)
}

func TestFindOfLongNames(t *testing.T) { // P1, P9.4
	long := strings.Repeat("Oak\xff", 1<<18)
	places := []api.Place{{Id: 1, Name: long + "b"}, {Id: 2, Name: wantFold(long)}, {Id: 3, Name: long}, {Id: 4, Name: long + "A"}, {Id: 5, Name: long[1:]}}
	checkFind(t, places, wantFold(long), 3, 2, 4, 1)
	checkFind(t, places, long+"B", 1)
	checkFind(t, places, long+long)
}

// exampleMap returns a map with the places of the examples, and other things.
func exampleMap() api.Map {
	return api.Map{
		Edges:  []api.Edge{{Id: 20, Line: sample.Pts(0, 0, 9, 0, 9, 9, 0, 0), Left: 30}},
		Faces:  []api.Face{{Id: 31, Name: "Mill"}, {Id: 30, Class: "oak", Name: "oak gate"}, {Id: 1, Name: "Oak Gate"}},
		Ways:   []api.Way{{Id: 12, Name: "Oak Gate"}, {Id: 3, Name: "Oak"}, {Id: 40, Class: "mill"}},
		Places: example(),
	}
}

func cloneMap(m api.Map) api.Map {
	c := api.Map{Edges: slices.Clone(m.Edges), Faces: slices.Clone(m.Faces), Ways: slices.Clone(m.Ways), Places: slices.Clone(m.Places)}
	for i := range c.Edges {
		c.Edges[i].Line = slices.Clone(c.Edges[i].Line)
	}
	for i := range c.Ways {
		c.Ways[i].Line = slices.Clone(c.Ways[i].Line)
	}
	return c
}

// checkNamed calls Named, which does not change m, R3; nil and empty results are equal, R1.
func checkNamed(t *testing.T, m api.Map, name string, want ...int) {
	t.Helper()
	before := cloneMap(m)
	if got := gazette.Named(m, name); !slices.Equal(got, want) {
		t.Fatalf("Named(%v, %q) = %v, want %v", m, name, got, want)
	}
	if !reflect.DeepEqual(m, before) {
		t.Fatalf("%v has become %v", before, m)
	}
}

func TestNamedExamples(t *testing.T) { // P9.5
	checkNamed(t, api.Map{Places: example()}, "oak", 2)
	m := exampleMap()
	checkNamed(t, m, "oak", 2)
	checkNamed(t, m, "Oak", 3)
	checkNamed(t, m, "Oak Gate", 1, 5, 12)
	checkNamed(t, m, "OAK GATE", 4)
	checkNamed(t, m, "oak gate", 30)
	checkNamed(t, m, "Mill", 7, 31)
	checkNamed(t, m, "mill")
	checkNamed(t, m, "Oak G")
	checkNamed(t, m, "Oak Gate ")
	checkNamed(t, m, "")
	checkNamed(t, api.Map{}, "")
	checkNamed(t, api.Map{}, "oak")
	checkNamed(t, api.Map{Edges: []api.Edge{}, Faces: []api.Face{}, Ways: []api.Way{}, Places: []api.Place{}}, "oak")
	checkNamed(t, api.Map{Edges: []api.Edge{{Id: 1}}, Faces: []api.Face{{Id: 2}}, Ways: []api.Way{{Id: 3}}, Places: []api.Place{{Id: 4}}}, "")
}

func TestNamedOfOneKind(t *testing.T) { // P9.5
	checkNamed(t, api.Map{Faces: []api.Face{{Id: 9, Name: "x"}, {Id: 8, Name: "y"}, {Id: 7, Name: "x"}}}, "x", 7, 9)
	checkNamed(t, api.Map{Ways: []api.Way{{Id: 9, Name: "x"}, {Id: 8, Name: "y"}, {Id: 7, Name: "x"}}}, "x", 7, 9)
	checkNamed(t, api.Map{Places: []api.Place{{Id: 9, Name: "x"}, {Id: 8, Name: "y"}, {Id: 7, Name: "x"}}}, "x", 7, 9)
}

func TestNamedInOrder(t *testing.T) { // P9.5
	// The Weight plays no part, and names need not be right.
	for _, name := range []string{"x", " ", `"`, "\xff", "\x00", strings.Repeat("é", 100)} {
		m := api.Map{
			Faces:  []api.Face{{Id: most, Name: name, Weight: 9}, {Id: 0, Name: name}},
			Ways:   []api.Way{{Id: 7, Name: name, Weight: 5}, {Id: -1, Name: name}},
			Places: []api.Place{{Id: 8, Name: name}, {Id: least, Name: name}, {Id: 7, Name: name}, {Id: 3, Name: name + " "}},
		}
		checkNamed(t, m, name, least, -1, 0, 7, 7, 8, most)
	}
}

// randomMap draws a map of any kind.
func randomMap(r *rand.Rand) api.Map {
	m := api.Map{Places: randomPlaces(r, 12)}
	for range r.Intn(12) {
		m.Edges = append(m.Edges, api.Edge{Id: randomNumber(r), Line: sample.RandomList(r, r.Intn(4), 9), Left: randomNumber(r), Right: randomNumber(r)})
		m.Faces = append(m.Faces, api.Face{Id: randomNumber(r), Class: randomName(r), Name: randomName(r), Weight: randomNumber(r), District: randomNumber(r)})
	}
	for range r.Intn(12) {
		m.Ways = append(m.Ways, api.Way{Id: randomNumber(r), Line: sample.RandomList(r, r.Intn(4), 9), Class: randomName(r), Name: randomName(r), Stairs: r.Intn(2) == 0})
	}
	return m
}

// wantNamed follows P9.5.
func wantNamed(m api.Map, name string) []int {
	var ids []int
	for _, f := range m.Faces {
		if name != "" && f.Name == name {
			ids = append(ids, f.Id)
		}
	}
	for _, w := range m.Ways {
		if name != "" && w.Name == name {
			ids = append(ids, w.Id)
		}
	}
	for _, p := range m.Places {
		if name != "" && p.Name == name {
			ids = append(ids, p.Id)
		}
	}
	slices.Sort(ids)
	return ids
}

func TestNamedOfManyMaps(t *testing.T) { // P9.5
	r := rand.New(rand.NewSource(9))
	several := 0
	for range 5000 {
		m := randomMap(r)
		name := randomName(r)
		want := wantNamed(m, name)
		checkNamed(t, m, name, want...)
		checkNamed(t, api.Map{Faces: shuffled(r, m.Faces), Ways: shuffled(r, m.Ways), Places: shuffled(r, m.Places)}, name, want...)
		if len(want) > 1 {
			several++
		}
	}
	if several < 300 {
		t.Errorf("only %d times several things", several)
	}
}

func TestNamedOfVeryManyThings(t *testing.T) { // P1, P9.5
	const n = 300000
	m, want := api.Map{}, make([]int, n)
	for i := n - 1; i >= 0; i-- {
		want[i] = i
		switch i % 3 {
		case 0:
			m.Faces = append(m.Faces, api.Face{Id: i, Name: "oak"})
		case 1:
			m.Ways = append(m.Ways, api.Way{Id: i, Name: "oak"})
		default:
			m.Places = append(m.Places, api.Place{Id: i, Name: "oak"})
		}
	}
	checkNamed(t, m, "oak", want...)
	checkNamed(t, m, "Oak")
}

func TestResultsHaveTheirOwnMemory(t *testing.T) { // R3, R4
	m := exampleMap()
	for _, call := range []func() []int{
		func() []int { return gazette.Find(m.Places, "oak") },
		func() []int { return gazette.Named(m, "Oak Gate") },
	} {
		first, second := call(), call()
		want := slices.Clone(first)
		for i := range first {
			first[i] = -1
		}
		if !slices.Equal(second, want) || !slices.Equal(call(), want) || !reflect.DeepEqual(m, exampleMap()) {
			t.Errorf("a changed result %v has changed %v", want, second)
		}
	}
}

func TestAnyArguments(t *testing.T) { // P1, R3, R4
	r := rand.New(rand.NewSource(10))
	for range 3000 {
		m := randomMap(r)
		for range 3 {
			a, b := randomString(r, allBytes(), 30), randomName(r)
			checkRight(t, a, nameForm.MatchString(a))
			checkClass(t, b, classForm.MatchString(b))
			checkFold(t, a, wantFold(a))
			checkLess(t, a, b, wantLess(a, b))
			checkFind(t, m.Places, a, wantFind(m.Places, a)...)
			checkFind(t, m.Places, b, wantFind(m.Places, b)...)
			checkNamed(t, m, a, wantNamed(m, a)...)
			checkNamed(t, m, b, wantNamed(m, b)...)
		}
	}
}
