package span_test

import (
	"math"
	"math/big"
	"math/rand"
	"reflect"
	"slices"
	"testing"

	"hachure/api"
	"hachure/exact"
	"hachure/sample"
	"hachure/span"
)

const (
	least = math.MinInt
	most  = math.MaxInt
	top   = api.MaxScale
)

// wrongAts are numbers that are no scales; the squares of those with 32 bits and more wrap around, some of them to 0 or to a small number.
var wrongAts = []int{
	-1, -3, -top, top + 1, 2 * top, 1 << 31, 1 << 32, 1<<32 + 1, -1 << 32, 1 << 33,
	3037000499, 3037000500, -3037000500, 1<<63 - 1<<32, most - 1, most, least, least + 1, least + 5,
}

// extremes are squares at which a comparison or a difference could wrap around.
var extremes = []int{least, least + 1, least / 2, -1 << 32, -1, 0, 1, 1 << 32, 1 << 62, most - 1, most}

// history returns a history with events at these scales.
func history(ats ...int) api.History {
	h := api.History{District: 3}
	for i, at := range ats {
		h.Events = append(h.Events, api.Event{Kind: api.EvDrop + i%4, At: at, Id: i + 1, Other: 7 - i, N: i % 3})
	}
	return h
}

// steps returns n events, one at each scale from 1 on.
func steps(n int) api.History {
	ats := make([]int, n)
	for i := range ats {
		ats[i] = i + 1
	}
	return history(ats...)
}

func ats(h api.History) []int {
	l := make([]int, len(h.Events))
	for i, e := range h.Events {
		l[i] = e.At
	}
	return l
}

// randomRight draws a history that is right, of up to limit events.
func randomRight(r *rand.Rand, limit int) api.History {
	l := r.Perm(top)[:r.Intn(limit+1)]
	slices.Sort(l)
	for i := range l {
		l[i]++
	}
	return history(l...)
}

// randomAny draws a history of up to limit events in any order, with equal and with wrong ones.
func randomAny(r *rand.Rand, limit int) api.History {
	l := make([]int, r.Intn(limit+1))
	for i := range l {
		switch r.Intn(8) {
		case 0:
			l[i] = wrongAts[r.Intn(len(wrongAts))]
		case 1, 2, 3:
			l[i] = r.Intn(5)
		default:
			l[i] = r.Intn(top + 1)
		}
	}
	if r.Intn(2) == 0 {
		slices.Sort(l)
	}
	return history(l...)
}

// squares returns numbers around the square of each At of h that is a scale, around 0, and the extremes.
func squares(h api.History) []int {
	l := append([]int{-2, 2, 3, top*top - 1, top * top, top*top + 1}, extremes...)
	for _, at := range ats(h) {
		if at >= -top && at <= 2*top {
			l = append(l, at*at-1, at*at, at*at+1)
		}
	}
	return l
}

// unchanged runs a call, and then compares h with what it was before, R3.
func unchanged(t *testing.T, h api.History, call func()) {
	t.Helper()
	before := api.History{District: h.District, Events: slices.Clone(h.Events)}
	call()
	if h.District != before.District || !slices.Equal(h.Events, before.Events) {
		t.Fatalf("%v has become %v", before, h)
	}
}

func squareOf(n int) *big.Int {
	b := big.NewInt(int64(n))
	return b.Mul(b, b)
}

// isDone decides by the words of the chapter whether the event i of h is done.
func isDone(h api.History, i, square int) bool {
	for _, e := range h.Events[:i+1] {
		if e.At < 0 || e.At > 1024 || squareOf(e.At).Cmp(big.NewInt(int64(square))) > 0 {
			return false
		}
	}
	return true
}

func oracleDone(h api.History, square int) int {
	n := 0
	for i := range h.Events {
		if isDone(h, i, square) {
			n++
		}
	}
	return n
}

func oracleDoing(h api.History, square int) (int, api.Ratio, bool) {
	done := oracleDone(h, square)
	if done == len(h.Events) {
		return 0, api.Ratio{}, false
	}
	begin := new(big.Int)
	if done > 0 {
		begin = squareOf(h.Events[done-1].At)
	}
	at, end, here := h.Events[done].At, squareOf(h.Events[done].At), big.NewInt(int64(square))
	if here.Cmp(begin) <= 0 || here.Cmp(end) >= 0 || at < 0 || at > 1024 {
		return 0, api.Ratio{}, false
	}
	f := new(big.Rat).SetFrac(here.Sub(here, begin), end.Sub(end, begin))
	return done, api.Ratio{N: int(f.Num().Int64()), D: int(f.Denom().Int64())}, true
}

// compareWithOracle compares Done and Doing at one scale.
func compareWithOracle(t *testing.T, h api.History, square int) {
	t.Helper()
	if got, want := span.Done(h, square), oracleDone(h, square); got != want {
		t.Fatalf("Done of %v at %d = %d, want %d", ats(h), square, got, want)
	}
	next, fraction, ok := span.Doing(h, square)
	wantNext, wantFraction, wantOk := oracleDoing(h, square)
	if next != wantNext || fraction != wantFraction || ok != wantOk {
		t.Fatalf("Doing of %v at %d = %d, %v, %v, want %d, %v, %v", ats(h), square, next, fraction, ok, wantNext, wantFraction, wantOk)
	}
}

// P11.1

func TestCheck(t *testing.T) {
	for name, c := range map[string]struct {
		h    api.History
		want api.Errno
	}{
		"the example":                 {history(3, 5, 100), api.OK},
		"a second 3":                  {history(3, 3, 5, 100), api.ErrOrder},
		"a 0 before them":             {history(0, 3, 5, 100), api.ErrRange},
		"a later 3":                   {history(3, 5, 3, 100), api.ErrOrder},
		"a 3 at the end":              {history(3, 5, 100, 3), api.ErrOrder},
		"a last one that is equal":    {history(3, 5, 100, 100), api.ErrOrder},
		"greater than its neighbour":  {history(3, 100, 5, 50), api.ErrOrder},
		"no events":                   {api.History{District: 2}, api.OK},
		"no elements":                 {api.History{Events: []api.Event{}}, api.OK},
		"no district":                 {api.History{District: -4, Events: []api.Event{{At: 1}}}, api.OK},
		"the least scale":             {history(1), api.OK},
		"the greatest scale":          {history(1024), api.OK},
		"both":                        {history(1, 1024), api.OK},
		"neighbours":                  {history(1023, 1024), api.OK},
		"the scale 0":                 {history(0), api.ErrRange},
		"beyond the greatest scale":   {history(1025), api.ErrRange},
		"then beyond it":              {history(1024, 1025), api.ErrRange},
		"a negative scale":            {history(-1), api.ErrRange},
		"then a negative scale":       {history(5, -6), api.ErrRange},
		"out of range before order":   {history(5, 0), api.ErrRange},
		"order before a later range":  {history(5, 4, 0), api.ErrOrder},
		"range before a later order":  {history(0, 5, 4), api.ErrRange},
		"equal and beyond the bounds": {history(1025, 1025), api.ErrRange},
		"equal and negative":          {history(7, -2, -2), api.ErrRange},
		"the most events":             {steps(200), api.OK},
		"one more":                    {steps(201), api.ErrMany},
		"far more":                    {steps(1024), api.ErrMany},
		"too many, and out of range":  {history(make([]int, 201)...), api.ErrMany},
		"200 zeros":                   {history(make([]int, 200)...), api.ErrRange},
	} {
		if got := span.Check(c.h); got != c.want {
			t.Errorf("%s: %v, want %v", name, got, c.want)
		}
	}
}

func TestCheckOfWrongScales(t *testing.T) {
	for _, at := range wrongAts {
		for i := range 3 {
			l := slices.Insert([]int{1, 1024}, i, at)
			if got := span.Check(history(l...)); got != api.ErrRange {
				t.Errorf("%v: %v, want %v", l, got, api.ErrRange)
			}
		}
	}
}

// One event of a right history is changed in each way: by one to the bounds of what it may be, and beyond them.
func TestCheckOfOneWrongEvent(t *testing.T) {
	r := rand.New(rand.NewSource(1))
	for range 300 {
		h := randomRight(r, api.MaxEvents)
		if got := span.Check(h); got != api.OK {
			t.Fatalf("%v: %v", ats(h), got)
		}
		for i := range h.Events {
			low, high := 0, top+1
			if i > 0 {
				low = h.Events[i-1].At
			}
			if i < len(h.Events)-1 {
				high = h.Events[i+1].At
			}
			for at, want := range map[int]api.Errno{low: api.ErrOrder, high: api.ErrOrder, low + 1: api.OK, high - 1: api.OK} {
				if at == 0 || at == top+1 {
					want = api.ErrRange
				}
				spoiled := api.History{Events: slices.Clone(h.Events)}
				spoiled.Events[i].At = at
				if got := span.Check(spoiled); got != want {
					t.Fatalf("%v: %v, want %v", ats(spoiled), got, want)
				}
			}
		}
	}
}

// What an event does, and the district, are not checked here: all fields but At play no part.
func TestOtherFieldsPlayNoPart(t *testing.T) {
	r := rand.New(rand.NewSource(2))
	for range 300 {
		h := randomAny(r, 8)
		bare := api.History{}
		for _, e := range h.Events {
			bare.Events = append(bare.Events, api.Event{At: e.At})
		}
		if a, b := span.Check(h), span.Check(bare); a != b {
			t.Fatalf("Check of %v: %v, and %v with nothing else", ats(h), a, b)
		}
		for _, square := range squares(h) {
			if a, b := span.Done(h, square), span.Done(bare, square); a != b {
				t.Fatalf("Done of %v at %d: %d, and %d with nothing else", ats(h), square, a, b)
			}
			next, f, ok := span.Doing(h, square)
			if bareNext, g, also := span.Doing(bare, square); next != bareNext || f != g || ok != also {
				t.Fatalf("Doing of %v at %d: %d, %v, %v, and %d, %v, %v with nothing else", ats(h), square, next, f, ok, bareNext, g, also)
			}
		}
	}
}

// P11.2 and P11.6

func TestSquare(t *testing.T) {
	for _, c := range []struct{ x, y, want int }{
		{0, 0, 0}, {1, 0, 1}, {0, 1, 1}, {3, 4, 25}, {-3, 4, 25}, {3, -4, 25}, {-3, -4, 25},
		{1024, 0, 1048576}, {1024, -1024, 2097152}, {-16384, 16384, 536870912},
		{2147483647, 2147483647, 9223372028264841218},
		{3037000499, 0, 9223372030926249001},
		{1 << 31, 1 << 31, least}, {1 << 32, 0, 0}, {1 << 32, 1 << 32, 0}, {1<<32 + 1, 0, 1<<33 + 1},
		{most, 0, 1}, {most, most, 2}, {least, 5, 25}, {least, least, 0}, {least, most, 1},
		{3037000500, 0, -9223372036709301616},
	} {
		if got := span.Square(sample.Pt(c.x, c.y)); got != c.want {
			t.Errorf("Square of (%d, %d) = %d, want %d", c.x, c.y, got, c.want)
		}
	}
}

// wrapped returns the number between least and most from which b differs by a multiple of 2^64.
func wrapped(b *big.Int) int {
	word := new(big.Int).Mod(b, new(big.Int).Lsh(big.NewInt(1), 64))
	return int(word.Uint64())
}

func TestSquareOfManyPoints(t *testing.T) {
	r := rand.New(rand.NewSource(3))
	for range 20000 {
		u := sample.Pt(int(r.Uint64())>>r.Intn(64), int(r.Uint64())>>r.Intn(64))
		want := wrapped(new(big.Int).Add(squareOf(u.X), squareOf(u.Y)))
		if got := span.Square(u); got != want {
			t.Fatalf("Square of %v = %d, want %d", u, got, want)
		}
	}
}

func TestSquareOfTurns(t *testing.T) {
	points := append(sample.Around(-6, 6), sample.WrongPoints()...)
	for _, x := range extremes {
		for _, y := range extremes {
			points = append(points, sample.Pt(x, y))
		}
	}
	for _, u := range points {
		turned := u
		for range 4 {
			turned = sample.Pt(-turned.Y, turned.X)
			if a, b := span.Square(u), span.Square(turned); a != b {
				t.Fatalf("Square of %v = %d, and of %v = %d", u, a, turned, b)
			}
		}
	}
}

// P11.3

func TestDone(t *testing.T) {
	for _, c := range []struct {
		ats          []int
		square, want int
	}{
		{[]int{3, 5, 100}, 8, 0}, {[]int{3, 5, 100}, 9, 1}, {[]int{3, 5, 100}, 10, 1}, {[]int{3, 5, 100}, 24, 1},
		{[]int{3, 5, 100}, 25, 2}, {[]int{3, 5, 100}, 9999, 2}, {[]int{3, 5, 100}, 10000, 3}, {[]int{3, 5, 100}, most, 3},
		{[]int{3, 5, 100}, 0, 0}, {[]int{3, 5, 100}, -9, 0}, {[]int{3, 5, 100}, least, 0},
		{nil, 0, 0}, {nil, most, 0}, {nil, least, 0},
		{[]int{0}, -1, 0}, {[]int{0}, 0, 1}, {[]int{0, 0, 1}, 0, 2}, {[]int{0, 0, 1}, 1, 3},
		{[]int{1024}, top*top - 1, 0}, {[]int{1024}, top * top, 1},
		{[]int{1025}, most, 0}, {[]int{-1}, most, 0}, {[]int{3, -1, 5}, most, 1}, {[]int{3, 1025, 5}, most, 1},
		{[]int{1024, 1 << 32}, most, 1}, {[]int{1 << 32, 3}, most, 0}, {[]int{least, 3}, most, 0},
		{[]int{5, 3, 100}, 9, 0}, {[]int{5, 3, 100}, 24, 0}, {[]int{5, 3, 100}, 25, 2},
		{[]int{100, 1, 1, 1}, 50, 0}, {[]int{100, 1, 1, 1}, 10000, 4}, {[]int{5, 5, 5}, 25, 3}, {[]int{5, 5, 5}, 24, 0},
		{[]int{3, 100, 4}, 9999, 1},
	} {
		if got := span.Done(history(c.ats...), c.square); got != c.want {
			t.Errorf("Done of %v at %d = %d, want %d", c.ats, c.square, got, c.want)
		}
	}
}

func TestDoing(t *testing.T) {
	for _, c := range []struct {
		ats                []int
		square, next, n, d int
	}{
		{[]int{3, 5, 100}, 10, 1, 1, 16}, {[]int{3, 5, 100}, 24, 1, 15, 16}, {[]int{3, 5, 100}, 13, 1, 1, 4},
		{[]int{3, 5, 100}, 4, 0, 4, 9}, {[]int{3, 5, 100}, 1, 0, 1, 9}, {[]int{3, 5, 100}, 8, 0, 8, 9}, {[]int{3, 5, 100}, 6, 0, 2, 3},
		{[]int{3, 5, 100}, 26, 2, 1, 9975}, {[]int{3, 5, 100}, 9999, 2, 9974, 9975}, {[]int{3, 5, 100}, 50, 2, 1, 399},
		{[]int{1024}, 1, 0, 1, top * top}, {[]int{1024}, top * top / 2, 0, 1, 2}, {[]int{1023, 1024}, 1023*1023 + 89, 1, 1, 23},
		{[]int{0, 2}, 2, 1, 1, 2}, {[]int{0, 0, 2}, 3, 2, 3, 4}, {[]int{5, 5, 7}, 26, 2, 1, 24},
		{[]int{5, 3, 100}, 9, 0, 9, 25}, {[]int{5, 3, 100}, 25, 2, 16, 9991}, {[]int{5, 3, 100}, 10, 0, 2, 5},
		{[]int{3, 100, 4}, 16, 1, 7, 9991}, {[]int{3, 100, 4}, 9999, 1, 9990, 9991},
	} {
		next, f, ok := span.Doing(history(c.ats...), c.square)
		if want := (api.Ratio{N: c.n, D: c.d}); next != c.next || f != want || !ok {
			t.Errorf("Doing of %v at %d = %d, %v, %v, want %d, %v, true", c.ats, c.square, next, f, ok, c.next, want)
		}
	}
}

func TestDoingOfNothing(t *testing.T) {
	for name, c := range map[string]struct {
		ats    []int
		square int
	}{
		"at the end of the first":           {[]int{3, 5, 100}, 9},
		"at the end of the second":          {[]int{3, 5, 100}, 25},
		"at the end of the last":            {[]int{3, 5, 100}, 10000},
		"all are done":                      {[]int{3, 5, 100}, 10001},
		"all are done by far":               {[]int{3, 5, 100}, most},
		"at the begin of the first":         {[]int{3, 5, 100}, 0},
		"negative":                          {[]int{3, 5, 100}, -1},
		"as negative as can be":             {[]int{3, 5, 100}, least},
		"no events":                         {nil, 10},
		"no events, and negative":           {nil, least},
		"the next is 0":                     {[]int{0, 5}, -1},
		"just 0":                            {[]int{0, 5}, 0},
		"the next is negative":              {[]int{-3, 5}, 4},
		"the next is negative, after 1":     {[]int{1, -3, 5}, 4},
		"the next is too great":             {[]int{1025}, 4},
		"the next is too great, after 1":    {[]int{1, 1025, 1026}, 4},
		"the next is too great, at its end": {[]int{1025}, 1025 * 1025},
		"the next wraps around":             {[]int{1 << 31}, 4},
		"the next wraps around to 0":        {[]int{1, 1 << 32}, 4},
		"the next wraps around to 5^2":      {[]int{1, least + 5}, 4},
		"the next is the greatest":          {[]int{most}, most},
		"the next is the least":             {[]int{least}, 4},
	} {
		if next, f, ok := span.Doing(history(c.ats...), c.square); next != 0 || f != (api.Ratio{}) || ok {
			t.Errorf("%s: %d, %v, %v", name, next, f, ok)
		}
	}
}

// All histories of up to three events of few scales, right or not, at all squares around them.
func TestSmallHistories(t *testing.T) {
	small := []int{-1, 0, 1, 2, 3, 1024, 1025}
	var visit func(l []int)
	visit = func(l []int) {
		h := history(l...)
		for _, square := range append(squares(h), 4, 5, 8, 9, 10) {
			compareWithOracle(t, h, square)
		}
		if len(l) == 3 {
			return
		}
		for _, at := range small {
			visit(append(slices.Clone(l), at))
		}
	}
	visit(nil)
}

func TestRandomHistories(t *testing.T) {
	r := rand.New(rand.NewSource(4))
	for i := range 4000 {
		h := randomAny(r, 12)
		if i%4 == 0 {
			h = randomRight(r, 12)
		}
		for _, square := range squares(h) {
			compareWithOracle(t, h, square)
		}
		for range 20 {
			compareWithOracle(t, h, r.Intn(top*top+2*top)-top)
		}
	}
}

// The calls are not bound to MaxEvents, R5, and leave the history as it is.
func TestLongHistories(t *testing.T) {
	h := steps(top)
	unchanged(t, h, func() {
		for at := 1; at < top; at++ {
			if got := span.Done(h, at*at+2*at); got != at {
				t.Fatalf("Done at %d = %d, want %d", at*at+2*at, got, at)
			}
			next, f, ok := span.Doing(h, at*at+1)
			if want := (api.Ratio{N: 1, D: 2*at + 1}); next != at || f != want || !ok {
				t.Fatalf("Doing at %d = %d, %v, %v, want %d, %v, true", at*at+1, next, f, ok, at, want)
			}
		}
	})
	zeros := history(make([]int, 100000)...)
	if got := span.Done(zeros, 0); got != 100000 {
		t.Errorf("Done of 100000 zeros at 0 = %d", got)
	}
}

func TestHistoriesStayUnchanged(t *testing.T) {
	r := rand.New(rand.NewSource(5))
	for range 200 {
		h := randomAny(r, 12)
		unchanged(t, h, func() {
			span.Check(h)
			for _, square := range squares(h) {
				span.Done(h, square)
				span.Doing(h, square)
			}
		})
	}
}

// A nil list of events is one without elements, R1.
func TestNoEvents(t *testing.T) {
	for _, h := range []api.History{{}, {Events: []api.Event{}}, {District: 4, Events: make([]api.Event, 0, 3)}} {
		for _, square := range extremes {
			next, f, ok := span.Doing(h, square)
			if span.Done(h, square) != 0 || next != 0 || f != (api.Ratio{}) || ok {
				t.Errorf("%v at %d: %d, %d, %v, %v", h, square, span.Done(h, square), next, f, ok)
			}
		}
	}
}

// P11.4

func TestScale(t *testing.T) {
	for square, want := range map[int]int{
		24: 4, 25: 5, 26: 5, 2000000: 1024, 0: 0, 1: 1, 2: 1, 3: 1, 4: 2,
		-1: 0, -25: 0, least: 0, most: 1024, 1 << 62: 1024,
	} {
		if got := span.Scale(square); got != want {
			t.Errorf("Scale of %d = %d, want %d", square, got, want)
		}
	}
	for square, n := 0, 0; n <= top; square++ {
		if (n+1)*(n+1) == square {
			n++
		}
		if got, want := span.Scale(square), min(n, 1024); got != want {
			t.Fatalf("Scale of %d = %d, want %d", square, got, want)
		}
	}
}

func TestBand(t *testing.T) {
	for square, want := range map[int]int{
		1024: 0, 1025: 1, 262145: 3, 0: 0, 1: 0, -1: 0, -1025: 0, least: 0,
		1023: 0, 16383: 1, 16384: 1, 16385: 2, 262143: 2, 262144: 2, 1 << 20: 3, most: 3,
	} {
		if got := span.Band(square); got != want {
			t.Errorf("Band of %d = %d, want %d", square, got, want)
		}
	}
	for at, want := range map[int]int{32: 0, 33: 1, 128: 1, 129: 2, 512: 2, 513: 3, 1024: 3} {
		if got := span.Band(at * at); got != want {
			t.Errorf("Band of the square of %d = %d, want %d", at, got, want)
		}
	}
}

// P11.5

// From each scale to the next one: no fewer events are done, which are those up to its root, and the fraction grows, but is neither 0 nor 1.
func TestGrowth(t *testing.T) {
	for _, h := range []api.History{history(1, 2, 5, 100, 1023, 1024), history(3, 5, 100), history(1000), {}} {
		done, last := 0, api.Ratio{N: 0, D: 1}
		for square := -3; square <= top*top+3; square++ {
			before := done
			done = span.Done(h, square)
			if done < before {
				t.Fatalf("%v: %d events are done at %d, and then %d", ats(h), before, square-1, done)
			}
			if want := upTo(h, span.Scale(square)); done != want {
				t.Fatalf("%v: %d events are done at %d, not the %d up to its root", ats(h), done, square, want)
			}
			if done > before {
				last = api.Ratio{N: 0, D: 1}
			}
			last = grown(t, h, square, last)
		}
	}
}

// upTo returns how many events of h have an At that is at most scale.
func upTo(h api.History, scale int) int {
	n := 0
	for _, e := range h.Events {
		if e.At <= scale {
			n++
		}
	}
	return n
}

// grown returns the fraction at the square, if something is in progress: it must be greater than last, the one at the square before, and less than 1; otherwise it returns last.
func grown(t *testing.T, h api.History, square int, last api.Ratio) api.Ratio {
	t.Helper()
	next, f, ok := span.Doing(h, square)
	if !ok {
		return last
	}
	if next != span.Done(h, square) {
		t.Fatalf("%v: the event %d is in progress at %d, but %d are done", ats(h), next, square, span.Done(h, square))
	}
	if exact.Cmp(f, last) != 1 || exact.Cmp(f, api.Ratio{N: 1, D: 1}) != -1 {
		t.Fatalf("%v: the fraction is %v at %d, after %v", ats(h), f, square, last)
	}
	return f
}

// Of a right history something is in progress at all scales but those of its events, and those beyond its last one.
func TestInProgressBetweenNeighbours(t *testing.T) {
	r := rand.New(rand.NewSource(6))
	for range 300 {
		h := randomRight(r, 9)
		for _, square := range squares(h) {
			root := span.Scale(square)
			atEvent := root*root == square && slices.Contains(ats(h), root)
			beyond := upTo(h, root) == len(h.Events)
			_, _, ok := span.Doing(h, square)
			if want := square > 0 && !atEvent && !beyond; ok != want {
				t.Fatalf("%v: something is in progress at %d: %v, want %v", ats(h), square, ok, want)
			}
		}
	}
}

// With a greater square no fewer events are done, of any history.
func TestDoneGrows(t *testing.T) {
	r := rand.New(rand.NewSource(7))
	for range 1000 {
		h := randomAny(r, 12)
		l := squares(h)
		slices.Sort(l)
		var counts []int
		for _, square := range l {
			counts = append(counts, span.Done(h, square))
		}
		if !slices.IsSorted(counts) {
			t.Fatalf("%v: at %v there are done %v", ats(h), l, counts)
		}
	}
}

// The same calls return the same results, R4.
func TestTwice(t *testing.T) {
	r := rand.New(rand.NewSource(8))
	for range 100 {
		h := randomAny(r, 12)
		for _, square := range squares(h) {
			type results struct {
				errno               api.Errno
				done, next          int
				fraction            api.Ratio
				ok                  bool
				square, scale, band int
			}
			all := func() (x results) {
				x.errno, x.done = span.Check(h), span.Done(h, square)
				x.next, x.fraction, x.ok = span.Doing(h, square)
				x.square, x.scale, x.band = span.Square(sample.Pt(square, 3)), span.Scale(square), span.Band(square)
				return x
			}
			if a, b := all(), all(); !reflect.DeepEqual(a, b) {
				t.Fatalf("%v at %d: %v, and then %v", ats(h), square, a, b)
			}
		}
	}
}
