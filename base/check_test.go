package base_test

import (
	"math/rand"
	"slices"
	"strings"
	"testing"

	"hachure/api"
	"hachure/base"
	"hachure/cover"
	"hachure/network"
	"hachure/sample"
)

func checkCheck(t *testing.T, m api.Map, want api.Errno) {
	t.Helper()
	unchanged(t, m, func() {
		if got := base.Check(m); got != want {
			t.Fatalf("Check(%v) = %d, want %d", m, got, want)
		}
	})
}

// checkChanged checks a town with a change.
func checkChanged(t *testing.T, want api.Errno, change func(*api.Map)) {
	t.Helper()
	checkCheck(t, changed(town(), change), want)
}

func TestCheckExamples(t *testing.T) { // P10.1
	checkCheck(t, example(), api.OK)
	checkCheck(t, town(), api.OK)
	checkCheck(t, api.Map{}, api.OK)
	checkCheck(t, full(api.Map{}), api.OK)
	for want, changes := range map[api.Errno][]func(*api.Map){
		api.ErrInside: {
			func(m *api.Map) { m.Places[0].At = pt(3, 8) },
			func(m *api.Map) { m.Places[0].At = pt(5, 5) },
			func(m *api.Map) { m.Places[0].District = 3 },
		},
		api.ErrTwice: {func(m *api.Map) { m.Ways[0].Id = 5 }},
		api.ErrName:  {func(m *api.Map) { m.Faces[0].Class = "Field" }},
		api.ErrRange: {func(m *api.Map) { m.Places[0].Weight = 0 }},
	} {
		for _, change := range changes {
			checkCheck(t, changed(example(), change), want)
		}
	}
}

func TestCheckOfEdgesAndFaces(t *testing.T) { // P10.1, check 1
	for want, change := range map[api.Errno]func(*api.Map){
		api.ErrArg:    func(m *api.Map) { m.Faces[0].Id = 0 },
		api.ErrTwice:  func(m *api.Map) { m.Edges[1].Id = 14 },
		api.ErrPoint:  func(m *api.Map) { m.Edges[0].Line[1].X = -far - 1 },
		api.ErrLine:   func(m *api.Map) { m.Edges[0].Line[1] = pt(10, 0) },
		api.ErrFace:   func(m *api.Map) { m.Edges[1].Left = 21 },
		api.ErrNone:   func(m *api.Map) { m.Edges[1].Left = 33 },
		api.ErrMeet:   func(m *api.Map) { m.Edges[3].Line[2] = pt(24, 6) },
		api.ErrInside: func(m *api.Map) { m.Edges[3].Right = 22 },
		api.ErrMany:   func(m *api.Map) { m.Edges[3].Line = m.Edges[3].Line[:1] },
	} {
		m := changed(town(), change)
		if got := cover.Check(m.Edges, m.Faces); got != want {
			t.Fatalf("cover.Check = %d, want %d", got, want)
		}
		checkCheck(t, m, want)
		// Nothing that follows counts any more.
		checkCheck(t, changed(m, func(m *api.Map) { m.Ways[0].Level = 3 }), want)
		checkCheck(t, changed(m, func(m *api.Map) { m.Places = make([]api.Place, 81) }), want)
		checkCheck(t, changed(m, func(m *api.Map) { m.Faces[1].Class, m.Places[0].Weight, m.Ways[0].Id = "", 0, most }), want)
	}
	checkChanged(t, api.ErrNone, func(m *api.Map) { m.Faces = append(m.Faces, api.Face{Id: 24, Class: "park", Weight: 1, District: 1}) })
	checkCheck(t, api.Map{Faces: make([]api.Face, 81)}, api.ErrMany)
	checkCheck(t, api.Map{Edges: make([]api.Edge, 201)}, api.ErrMany)
}

func TestCheckOfWays(t *testing.T) { // P10.1, check 1
	for want, change := range map[api.Errno]func(*api.Map){
		api.ErrArg:   func(m *api.Map) { m.Ways[0].Id = -1 },
		api.ErrTwice: func(m *api.Map) { m.Ways[2].Id = 33 },
		api.ErrPoint: func(m *api.Map) { m.Ways[2].Line[1].Y = far + 1 },
		api.ErrLine:  func(m *api.Map) { m.Ways[2].Line[1] = pt(0, 20) },
		api.ErrRange: func(m *api.Map) { m.Ways[2].Level = -3 },
		api.ErrLevel: func(m *api.Map) { m.Ways[1].Level, m.Ways[1].Line[0] = 0, pt(8, 22) },
		api.ErrMany:  func(m *api.Map) { m.Ways = make([]api.Way, 81) },
	} {
		m := changed(town(), change)
		if got := network.Check(m.Ways); got != want {
			t.Fatalf("network.Check = %d, want %d", got, want)
		}
		checkCheck(t, m, want)
		// Nothing that follows counts any more.
		checkCheck(t, changed(m, func(m *api.Map) { m.Places = make([]api.Place, 81) }), want)
		checkCheck(t, changed(m, func(m *api.Map) { m.Faces[0].Class, m.Faces[0].Weight = "", 0 }), want)
		checkCheck(t, changed(m, func(m *api.Map) { m.Places[0].Id, m.Places[1].At = most, pt(0, 0) }), want)
	}
	checkChanged(t, api.ErrRange, func(m *api.Map) { m.Ways[0].Weight, m.Ways[0].Class = 0, "" })
	checkChanged(t, api.ErrRange, func(m *api.Map) { m.Ways[0].Weight, m.Ways[0].Class = 256, "" })
}

// forest returns a map with n places in one face.
func forest(n int) api.Map {
	m := example()
	m.Edges[0].Line = pts(-far, -far, far, -far, far, far, -far, far, -far, -far)
	m.Places = make([]api.Place, n)
	for i := range n {
		m.Places[i] = api.Place{Id: 100 + i, At: pt(i, i), Class: "tree", Weight: 1, District: 2}
	}
	return m
}

func TestCheckManyPlaces(t *testing.T) { // P10.1, check 1
	for _, n := range []int{0, 1, 79, 80} {
		checkCheck(t, forest(n), api.OK)
	}
	for _, n := range []int{81, 82, 1000} {
		checkCheck(t, forest(n), api.ErrMany)
		checkCheck(t, changed(forest(n), func(m *api.Map) { m.Faces[0].Class, m.Places[0].Id, m.Places[1].At = "", 0, pt(far+1, 0) }), api.ErrMany)
		checkCheck(t, api.Map{Places: make([]api.Place, n)}, api.ErrMany)
	}
}

// common points at the fields that all things have.
type common struct {
	class, name      *string
	weight, district *int
}

// things returns the fields of all things of m: of faces, then of ways and of places.
func things(m *api.Map) []common {
	var l []common
	for i := range m.Faces {
		f := &m.Faces[i]
		l = append(l, common{&f.Class, &f.Name, &f.Weight, &f.District})
	}
	for i := range m.Ways {
		w := &m.Ways[i]
		l = append(l, common{&w.Class, &w.Name, &w.Weight, &w.District})
	}
	for i := range m.Places {
		p := &m.Places[i]
		l = append(l, common{&p.Class, &p.Name, &p.Weight, &p.District})
	}
	return l
}

// eachThing checks a town with a change of each of its things.
func eachThing(t *testing.T, want api.Errno, change func(common)) {
	t.Helper()
	m := town()
	for i := range things(&m) {
		checkChanged(t, want, func(m *api.Map) { change(things(m)[i]) })
	}
}

func TestCheckNames(t *testing.T) { // P10.1, check 2
	for _, class := range []string{"a", "z", "abcdefghijkl"} {
		eachThing(t, api.OK, func(c common) { *c.class = class })
	}
	for _, class := range []string{"", "A", "a b", "abcdefghijklm", "a1", "é", " ", "`", "{", strings.Repeat("x", 100000)} {
		eachThing(t, api.ErrName, func(c common) { *c.class = class })
	}
	for _, name := range []string{"", "a", "A", "Oak Gate", "7", "~!", strings.Repeat("x", 24)} {
		eachThing(t, api.OK, func(c common) { *c.name = name })
	}
	for _, name := range []string{" ", " a", "a ", `"`, `a"b`, "é", "\x7f", "\n", strings.Repeat("x", 25), strings.Repeat("x", 100000)} {
		eachThing(t, api.ErrName, func(c common) { *c.name = name })
	}
}

func TestCheckRanges(t *testing.T) { // P10.1, check 2
	for _, n := range []int{1, 2, 100, 254, 255} {
		eachThing(t, api.OK, func(c common) { *c.weight = n })
	}
	for _, n := range []int{0, -1, 256, 257, least, most} {
		eachThing(t, api.ErrRange, func(c common) { *c.weight = n })
	}
	for _, n := range []int{0, -1, 17, 18, least, most} {
		eachThing(t, api.ErrRange, func(c common) { *c.district = n })
	}
	for _, n := range []int{1, 2, 15, 16} {
		// All of one district, so that places are in faces of theirs.
		checkChanged(t, api.OK, func(m *api.Map) {
			for _, c := range things(m) {
				*c.district = n
			}
		})
	}
}

func TestCheckPlaces(t *testing.T) { // P10.1, check 2
	for i := range 3 {
		for _, id := range []int{0, -1, least, -maxId} {
			checkChanged(t, api.ErrArg, func(m *api.Map) { m.Places[i].Id = id })
		}
		for _, at := range sample.WrongPoints() {
			checkChanged(t, api.ErrPoint, func(m *api.Map) { m.Places[i].At = at })
		}
		checkChanged(t, api.ErrInside, func(m *api.Map) { m.Places[i].At = pt(far, far) })
		checkChanged(t, api.ErrInside, func(m *api.Map) { m.Places[i].At = pt(-far, -far) })
	}
	// The least Id.
	checkChanged(t, api.OK, func(m *api.Map) { m.Places[0].Id = 1 })
	// A place at the greatest coordinates that are right, and that are in a face.
	m := forest(1)
	for _, p := range pts(far-1, far-1, 1-far, 1-far, far-1, 1-far, 1-far, far-1) {
		m.Places[0].At = p
		checkCheck(t, m, api.OK)
	}
}

func TestCheckFieldByField(t *testing.T) { // P10.1, check 2, R2
	// Each fault hides those that follow, of the same thing.
	faults := []struct {
		want  api.Errno
		spoil func(*api.Place)
	}{
		{api.ErrName, func(p *api.Place) { p.Class = "" }},
		{api.ErrName, func(p *api.Place) { p.Name = `"` }},
		{api.ErrRange, func(p *api.Place) { p.Weight = 0 }},
		{api.ErrRange, func(p *api.Place) { p.District = 17 }},
		{api.ErrArg, func(p *api.Place) { p.Id = 0 }},
		{api.ErrPoint, func(p *api.Place) { p.At.X = most }},
	}
	for set := 1; set < 1<<len(faults); set++ {
		checkChanged(t, firstOf(set, faults[0].want, faults[1].want, faults[2].want, faults[3].want, faults[4].want, faults[5].want), func(m *api.Map) {
			for i, f := range faults {
				if set>>i&1 == 1 {
					f.spoil(&m.Places[1])
				}
			}
		})
	}
	m := town()
	for i := range things(&m) {
		checkChanged(t, api.ErrName, func(m *api.Map) { c := things(m)[i]; *c.class, *c.district = "", 0 })
		checkChanged(t, api.ErrName, func(m *api.Map) { c := things(m)[i]; *c.name, *c.district = "é", 0 })
	}
}

// firstOf returns the first error that is in a set.
func firstOf(set int, errors ...api.Errno) api.Errno {
	for i, errno := range errors {
		if set>>i&1 == 1 {
			return errno
		}
	}
	return api.OK
}

func TestCheckThingByThing(t *testing.T) { // P10.1, check 2, R2
	m := town()
	n := len(things(&m))
	for i := range n {
		for j := range i {
			checkChanged(t, api.ErrRange, func(m *api.Map) { *things(m)[i].class, *things(m)[j].district = "", 0 })
			checkChanged(t, api.ErrName, func(m *api.Map) { *things(m)[i].district, *things(m)[j].class = 0, "" })
		}
	}
	// An Id or a point of a place hides what follows, and not what comes first.
	checkChanged(t, api.ErrArg, func(m *api.Map) { m.Places[0].Id, m.Places[1].Class = 0, "" })
	checkChanged(t, api.ErrPoint, func(m *api.Map) { m.Places[0].At.Y, m.Places[1].Class = most, "" })
	checkChanged(t, api.ErrName, func(m *api.Map) { m.Places[1].Id, m.Places[0].Class = 0, "" })
	checkChanged(t, api.ErrName, func(m *api.Map) { m.Places[0].Id, m.Faces[2].Class = 0, "" })
	checkChanged(t, api.ErrRange, func(m *api.Map) { m.Places[0].Id, m.Ways[2].District = 0, 0 })
}

// idOf points at the Id of an element.
type idOf struct {
	kind int
	id   *int
}

// idsOf returns the Ids of all elements of m but faces, which cannot change alone.
func idsOf(m *api.Map) []idOf {
	var l []idOf
	for i := range m.Ways {
		l = append(l, idOf{api.KindWay, &m.Ways[i].Id})
	}
	for i := range m.Places {
		l = append(l, idOf{api.KindPlace, &m.Places[i].Id})
	}
	for i := range m.Edges {
		l = append(l, idOf{api.KindEdge, &m.Edges[i].Id})
	}
	return l
}

// renumber gives a face another Id.
func renumber(m *api.Map, i, id int) {
	old := m.Faces[i].Id
	m.Faces[i].Id = id
	for j := range m.Edges {
		e := &m.Edges[j]
		if e.Left == old {
			e.Left = id
		}
		if e.Right == old {
			e.Right = id
		}
	}
}

func TestCheckGreatIds(t *testing.T) { // P10.1, check 3
	m := town()
	for id, want := range map[int]api.Errno{maxId - 1: api.OK, maxId: api.OK, maxId + 1: api.ErrArg, 1 << 32: api.ErrArg, most: api.ErrArg} {
		for i := range idsOf(&m) {
			checkChanged(t, want, func(m *api.Map) { *idsOf(m)[i].id = id })
		}
		for i := range m.Faces {
			checkChanged(t, want, func(m *api.Map) { renumber(m, i, id) })
		}
	}
}

func TestCheckEqualIds(t *testing.T) { // P10.1, check 3
	m := town()
	for i, a := range idsOf(&m) {
		for _, b := range idsOf(&m)[:i] {
			checkChanged(t, api.ErrTwice, func(m *api.Map) { *idsOf(m)[i].id = *b.id })
		}
		for j := range m.Faces {
			checkChanged(t, api.ErrTwice, func(m *api.Map) { renumber(m, j, *a.id) })
		}
	}
	// Too great an Id is found ahead of equal ones, wherever they are.
	for i := range idsOf(&m) {
		checkChanged(t, api.ErrArg, func(m *api.Map) { *idsOf(m)[i].id = maxId + 1; renumber(m, 0, *idsOf(m)[(i+1)%10].id) })
	}
	// Equal Ids that are too great.
	checkChanged(t, api.ErrArg, func(m *api.Map) { m.Ways[0].Id, m.Places[0].Id = most, most })
}

func TestCheckIdsAfterThings(t *testing.T) { // P10.1, check 3, R2
	checkChanged(t, api.ErrName, func(m *api.Map) { m.Edges[0].Id, m.Places[2].Class = most, "" })
	checkChanged(t, api.ErrRange, func(m *api.Map) { m.Edges[0].Id, m.Places[2].Weight = 42, 0 })
	checkChanged(t, api.ErrPoint, func(m *api.Map) { m.Ways[0].Id, m.Places[2].At.X = most, most })
	// Where places lie is found last.
	checkChanged(t, api.ErrArg, func(m *api.Map) { m.Ways[0].Id, m.Places[0].District = maxId+1, 9 })
	checkChanged(t, api.ErrTwice, func(m *api.Map) { m.Ways[0].Id, m.Places[0].District = 43, 9 })
	checkChanged(t, api.ErrRange, func(m *api.Map) { m.Places[0].At, m.Places[2].Weight = pt(-1, -1), 0 })
}

func TestCheckWherePlacesLie(t *testing.T) { // P10.1, check 4
	// Outside, on the ends of edges and on their segments, and in faces.
	for at, district := range map[api.Point]int{
		pt(-1, 5): 0, pt(5, -1): 0, pt(21, 5): 0, pt(25, 25): 0,
		pt(0, 0): 0, pt(10, 0): 0, pt(10, 10): 0, pt(20, 10): 0, pt(12, 2): 0,
		pt(10, 5): 0, pt(0, 5): 0, pt(14, 4): 0, pt(14, 2): 0, pt(16, 5): 0,
		pt(9, 5): 2, pt(1, 1): 2, pt(9, 9): 2, pt(11, 5): 4, pt(13, 4): 4, pt(15, 3): 4, pt(15, 4): 4,
	} {
		for i := range 3 {
			for d := 1; d <= api.MaxDistrict; d++ {
				want := api.ErrInside
				if d == district {
					want = api.OK
				}
				checkChanged(t, want, func(m *api.Map) { m.Places[i].At, m.Places[i].District = at, d })
			}
		}
	}
	// Several places can be at one point, where ways can be, too.
	checkChanged(t, api.OK, func(m *api.Map) { m.Places[1].At, m.Places[2].At = pt(14, 3), pt(14, 3) })
	checkChanged(t, api.OK, func(m *api.Map) { m.Places[0].At = pt(9, 5) })
	// Without faces there is only the outside.
	checkCheck(t, api.Map{Places: town().Places}, api.ErrInside)
	// Ways can be of districts without faces, and anywhere.
	checkCheck(t, api.Map{Ways: town().Ways}, api.OK)
}

// wantCheck follows P10.1; faceAt tells where places lie.
func wantCheck(m api.Map, faceAt func(api.Point) (int, bool)) api.Errno {
	if errno := cover.Check(m.Edges, m.Faces); errno != api.OK {
		return errno
	}
	if errno := network.Check(m.Ways); errno != api.OK {
		return errno
	}
	if len(m.Places) > 80 {
		return api.ErrMany
	}
	n := len(m.Faces) + len(m.Ways)
	for i, c := range things(&m) {
		class := len(*c.class) >= 1 && len(*c.class) <= 12 && strings.Trim(*c.class, "abcdefghijklmnopqrstuvwxyz") == ""
		name := len(*c.name) <= 24 && strings.TrimSpace(*c.name) == *c.name && !strings.ContainsFunc(*c.name, func(r rune) bool { return r < 32 || r > 126 || r == 34 })
		if !class || !name {
			return api.ErrName
		}
		if *c.weight < 1 || *c.weight > 255 || *c.district < 1 || *c.district > 16 {
			return api.ErrRange
		}
		if i >= n && m.Places[i-n].Id < 1 {
			return api.ErrArg
		}
		if i >= n && (max(m.Places[i-n].At.X, m.Places[i-n].At.Y) > 16384 || min(m.Places[i-n].At.X, m.Places[i-n].At.Y) < -16384) {
			return api.ErrPoint
		}
	}
	all := elements(m)
	if slices.ContainsFunc(all, func(x element) bool { return x.id > 1073741824 }) {
		return api.ErrArg
	}
	if len(wantIds(m)) < len(all) {
		return api.ErrTwice
	}
	for _, p := range m.Places {
		id, ok := faceAt(p.At)
		if f, found := firstFace(m, id); !ok || !found || f.District != p.District {
			return api.ErrInside
		}
	}
	return api.OK
}

// spoil changes a few things of a map.
func spoil(r *rand.Rand, m *api.Map, p sample.Partition) {
	l := things(m)
	c := l[r.Intn(len(l))]
	switch r.Intn(9) {
	case 0:
		*c.class = []string{"", "Park", "park"}[r.Intn(3)]
	case 1:
		*c.name = []string{"", "x ", `"`, strings.Repeat("x", 24+r.Intn(2))}[r.Intn(4)]
	case 2:
		*c.weight = r.Intn(2) * 255
	case 3:
		*c.district = r.Intn(18)
	case 4:
		m.Edges[r.Intn(len(m.Edges))].Id = []int{0, maxId, maxId + 1, 1 + r.Intn(2000)}[r.Intn(4)]
	case 5:
		ids := idsOf(m)
		*ids[r.Intn(len(ids))].id = *ids[r.Intn(len(ids))].id
	case 6:
		if len(m.Places) > 0 {
			m.Places[r.Intn(len(m.Places))].Id = []int{0, maxId, maxId + 1, m.Faces[0].Id}[r.Intn(4)]
		}
	case 7:
		if len(m.Places) > 0 {
			m.Places[r.Intn(len(m.Places))].At = []api.Point{pt(far+1, 0), p.RandomNear(r), p.RandomNear(r), m.Edges[0].Line[0]}[r.Intn(4)]
		}
	case 8:
		if len(m.Ways) > 0 {
			m.Ways[r.Intn(len(m.Ways))].Line[0] = p.RandomNear(r)
		}
	}
}

func TestCheckOfTowns(t *testing.T) { // P10.1
	towns(10, 300, func(_ *rand.Rand, m api.Map) { checkCheck(t, m, api.OK) })
}

func TestCheckOfSpoiledTowns(t *testing.T) { // P10.1
	r := rand.New(rand.NewSource(11))
	found := map[api.Errno]int{}
	for range 1500 {
		m, p := sample.RandomTown(r)
		if len(m.Faces) == 0 {
			continue
		}
		for range 1 + r.Intn(3) {
			spoil(r, &m, p)
		}
		want := wantCheck(m, p.FaceAt)
		checkCheck(t, m, want)
		found[want]++
	}
	for _, errno := range []api.Errno{api.OK, api.ErrArg, api.ErrName, api.ErrRange, api.ErrTwice, api.ErrPoint, api.ErrInside, api.ErrLevel} {
		if found[errno] < 10 {
			t.Errorf("only %d times %d", found[errno], errno)
		}
	}
}

func TestCheckOfWrongMaps(t *testing.T) { // P10.1
	r := rand.New(rand.NewSource(12))
	for range 2000 {
		m := sample.AnyMap(r, 3)
		checkCheck(t, m, wantCheck(m, func(p api.Point) (int, bool) { return cover.At(m.Edges, p) }))
	}
}
