package exact_test

import (
	"math"
	"math/big"
	"math/rand"
	"testing"

	"hachure/api"
	"hachure/exact"
)

const (
	least = math.MinInt
	most  = math.MaxInt
)

// extremes are numbers around every bound at which arithmetic of words could go wrong.
var extremes = []int{
	least, least + 1, least / 2, -3037000500, -1 << 32, -1<<31 - 1, -6, -1,
	0, 1, 2, 3, 7, 1<<31 - 1, 1 << 32, 3037000499, 1 << 62, most - 1, most,
}

var denominators = []int{1, 2, 3, 6, 7, 1 << 31, 1 << 62, most - 1, most}

var wrongDenominators = []int{0, -1, -2, least + 1, least}

func bigInt(n int) *big.Int {
	return big.NewInt(int64(n))
}

func bigSign2(a, b, c, d int) int {
	p := new(big.Int).Mul(bigInt(a), bigInt(b))
	q := new(big.Int).Mul(bigInt(c), bigInt(d))
	return p.Cmp(q)
}

func rat(x api.Ratio) *big.Rat {
	return big.NewRat(int64(x.N), int64(x.D))
}

// randomInt draws numbers of all lengths in bits, not only long ones.
func randomInt(r *rand.Rand) int {
	return int(r.Uint64()) >> r.Intn(64)
}

func randomDenominator(r *rand.Rand) int {
	return int(r.Uint64()>>1)>>r.Intn(63) | 1
}

func ratios() []api.Ratio {
	var l []api.Ratio
	for _, n := range extremes {
		for _, d := range denominators {
			l = append(l, api.Ratio{N: n, D: d})
		}
	}
	return l
}

func TestSign2Examples(t *testing.T) {
	for _, c := range []struct{ a, b, c, d, want int }{
		{1 << 62, 4, 1 << 62, 4, 0},
		{least, least, most, most, 1},
		{least, 1, most, -1, -1},
		{0, 0, 0, 0, 0},
		{2, 3, 6, 1, 0},
		{-2, 3, 2, -3, 0},
		{-2, -3, 2, 3, 0},
		{2, 3, 7, 1, -1},
		{-1, 1, 0, 5, -1},
		{0, 5, -1, 1, 1},
		{least, most, least, most, 0},
		{least, most, 0, 0, -1},
		{least, least, least, most, 1},
		{1 << 32, 1 << 32, 1<<32 + 1, 1<<32 - 1, 1},
		{1 << 62, 4, 0, 0, 1},
	} {
		if got := exact.Sign2(c.a, c.b, c.c, c.d); got != c.want {
			t.Errorf("Sign2(%d, %d, %d, %d) = %d, want %d", c.a, c.b, c.c, c.d, got, c.want)
		}
	}
}

func TestSign2OfExtremes(t *testing.T) {
	for _, a := range extremes {
		for _, b := range extremes {
			for _, c := range extremes {
				for _, d := range extremes {
					if got, want := exact.Sign2(a, b, c, d), bigSign2(a, b, c, d); got != want {
						t.Fatalf("Sign2(%d, %d, %d, %d) = %d, want %d", a, b, c, d, got, want)
					}
				}
			}
		}
	}
}

func TestSign2OfManyNumbers(t *testing.T) {
	r := rand.New(rand.NewSource(1))
	for range 50000 {
		a, b, c, d := randomInt(r), randomInt(r), randomInt(r), randomInt(r)
		if got, want := exact.Sign2(a, b, c, d), bigSign2(a, b, c, d); got != want {
			t.Fatalf("Sign2(%d, %d, %d, %d) = %d, want %d", a, b, c, d, got, want)
		}
	}
}

// Products that differ by 1 share their high words, and nearly all of their low words.
func TestSign2OfNeighbours(t *testing.T) {
	r := rand.New(rand.NewSource(2))
	for range 5000 {
		n := int(r.Uint64()>>2) + 2
		if got := exact.Sign2(n, n, n-1, n+1); got != 1 {
			t.Fatalf("Sign2(%d squared, its neighbours) = %d, want 1", n, got)
		}
		if got := exact.Sign2(-n, n, n-1, -n-1); got != -1 {
			t.Fatalf("Sign2(-%d squared, its neighbours) = %d, want -1", n, got)
		}
	}
}

func TestCmpExamples(t *testing.T) {
	for _, c := range []struct {
		x, y api.Ratio
		want int
	}{
		{api.Ratio{N: 1, D: 3}, api.Ratio{N: 2, D: 6}, 0},
		{api.Ratio{N: -1, D: 2}, api.Ratio{N: 1, D: 3}, -1},
		{api.Ratio{N: 1, D: 0}, api.Ratio{N: 1, D: 1}, 0},
		{api.Ratio{N: 7, D: 2}, api.Ratio{N: 3, D: 1}, 1},
		{api.Ratio{N: -7, D: 2}, api.Ratio{N: -3, D: 1}, -1},
		{api.Ratio{N: 0, D: 5}, api.Ratio{N: 0, D: 9}, 0},
		{api.Ratio{N: most - 1, D: most}, api.Ratio{N: most - 2, D: most - 1}, 1},
		{api.Ratio{N: least, D: most}, api.Ratio{N: -1, D: 1}, -1},
		{api.Ratio{N: least, D: 1}, api.Ratio{N: most, D: 1}, -1},
	} {
		if got := exact.Cmp(c.x, c.y); got != c.want {
			t.Errorf("Cmp(%v, %v) = %d, want %d", c.x, c.y, got, c.want)
		}
	}
}

func TestCmpOfExtremes(t *testing.T) {
	l := ratios()
	for _, x := range l {
		for _, y := range l {
			if got, want := exact.Cmp(x, y), rat(x).Cmp(rat(y)); got != want {
				t.Fatalf("Cmp(%v, %v) = %d, want %d", x, y, got, want)
			}
		}
	}
}

func TestCmpOfWrongRatios(t *testing.T) {
	for _, d := range wrongDenominators {
		for _, n := range extremes {
			wrong := api.Ratio{N: n, D: d}
			for _, x := range []api.Ratio{{N: 1, D: 1}, {N: -5, D: 2}, {N: least, D: most}, wrong, {}} {
				if got := exact.Cmp(wrong, x); got != 0 {
					t.Errorf("Cmp(%v, %v) = %d, want 0", wrong, x, got)
				}
				if got := exact.Cmp(x, wrong); got != 0 {
					t.Errorf("Cmp(%v, %v) = %d, want 0", x, wrong, got)
				}
			}
		}
	}
}

func TestSqrtExamples(t *testing.T) {
	for _, c := range []struct{ n, want int }{
		{15, 3}, {16, 4}, {17, 4}, {-4, 0}, {most, 3037000499},
		{0, 0}, {1, 1}, {2, 1}, {3, 1}, {4, 2}, {-1, 0}, {least, 0},
		{1<<62 - 1, 1<<31 - 1}, {1 << 62, 1 << 31}, {1<<62 + 1, 1 << 31},
		{3037000499 * 3037000499, 3037000499}, {3037000499*3037000499 - 1, 3037000498},
	} {
		if got := exact.Sqrt(c.n); got != c.want {
			t.Errorf("Sqrt(%d) = %d, want %d", c.n, got, c.want)
		}
	}
}

func TestSqrtOfNegativeNumbers(t *testing.T) {
	for _, n := range extremes {
		if got := exact.Sqrt(n); n < 0 && got != 0 {
			t.Errorf("Sqrt(%d) = %d, want 0", n, got)
		}
	}
}

func TestSqrtOfManyNumbers(t *testing.T) {
	check := func(n int) {
		want := int(new(big.Int).Sqrt(bigInt(n)).Int64())
		if got := exact.Sqrt(n); got != want {
			t.Fatalf("Sqrt(%d) = %d, want %d", n, got, want)
		}
	}
	for n := range 5000 {
		check(n)
	}
	r := rand.New(rand.NewSource(3))
	for range 20000 {
		check(int(r.Uint64()>>1) >> r.Intn(63))
		root := 1 + r.Intn(3037000499)
		check(root * root)
		check(root*root - 1)
	}
}

func TestGcdExamples(t *testing.T) {
	for _, c := range []struct{ a, b, want int }{
		{-12, 18, 6}, {0, -5, 5}, {-5, 0, 5}, {0, least, 1}, {least, 0, 1}, {least, least, 1},
		{0, 0, 0}, {7, 9, 1}, {12, 12, 12}, {-12, -18, 6}, {4, 12, 4},
		{least, 6, 2}, {6, least, 2}, {least, 1 << 62, 1 << 62}, {least, -1 << 62, 1 << 62},
		{least, most, 1}, {most, most, most}, {most, 0, most}, {least + 1, most, most},
	} {
		if got := exact.Gcd(c.a, c.b); got != c.want {
			t.Errorf("Gcd(%d, %d) = %d, want %d", c.a, c.b, got, c.want)
		}
	}
}

func bigGcd(a, b int) int {
	g := new(big.Int).GCD(nil, nil, new(big.Int).Abs(bigInt(a)), new(big.Int).Abs(bigInt(b)))
	if !g.IsInt64() {
		return 1
	}
	return int(g.Int64())
}

func TestGcdOfManyNumbers(t *testing.T) {
	check := func(a, b int) {
		if got, want := exact.Gcd(a, b), bigGcd(a, b); got != want {
			t.Fatalf("Gcd(%d, %d) = %d, want %d", a, b, got, want)
		}
	}
	for _, a := range extremes {
		for _, b := range extremes {
			check(a, b)
		}
	}
	r := rand.New(rand.NewSource(4))
	for range 20000 {
		a, b := randomInt(r), randomInt(r)
		check(a, b)
		c := randomInt(r) >> 40
		check((a>>40)*c, (b>>40)*c)
	}
}

func TestLowestExamples(t *testing.T) {
	for _, c := range []struct{ x, want api.Ratio }{
		{api.Ratio{N: -6, D: 4}, api.Ratio{N: -3, D: 2}},
		{api.Ratio{N: 0, D: 7}, api.Ratio{N: 0, D: 1}},
		{api.Ratio{N: 0, D: most}, api.Ratio{N: 0, D: 1}},
		{api.Ratio{N: 6, D: 3}, api.Ratio{N: 2, D: 1}},
		{api.Ratio{N: 3, D: 5}, api.Ratio{N: 3, D: 5}},
		{api.Ratio{N: least, D: 4}, api.Ratio{N: -1 << 61, D: 1}},
		{api.Ratio{N: least, D: 1}, api.Ratio{N: least, D: 1}},
		{api.Ratio{N: least, D: most}, api.Ratio{N: least, D: most}},
		{api.Ratio{N: least + 1, D: most}, api.Ratio{N: -1, D: 1}},
	} {
		if got, ok := exact.Lowest(c.x); !ok || got != c.want {
			t.Errorf("Lowest(%v) = %v, %v, want %v", c.x, got, ok, c.want)
		}
	}
}

func TestLowestOfWrongRatios(t *testing.T) {
	for _, d := range wrongDenominators {
		for _, n := range extremes {
			x := api.Ratio{N: n, D: d}
			if got, ok := exact.Lowest(x); ok || got != (api.Ratio{}) {
				t.Errorf("Lowest(%v) = %v, %v, want the zero ratio and false", x, got, ok)
			}
		}
	}
}

func TestLowestOfManyRatios(t *testing.T) {
	check := func(x api.Ratio) {
		got, ok := exact.Lowest(x)
		want := rat(x)
		if !ok || bigInt(got.N).Cmp(want.Num()) != 0 || bigInt(got.D).Cmp(want.Denom()) != 0 {
			t.Fatalf("Lowest(%v) = %v, %v, want %v", x, got, ok, want)
		}
	}
	for _, x := range ratios() {
		check(x)
	}
	r := rand.New(rand.NewSource(5))
	for range 20000 {
		check(api.Ratio{N: randomInt(r), D: randomDenominator(r)})
		c := 1 + r.Intn(1<<20)
		check(api.Ratio{N: r.Intn(1000) * c, D: (1 + r.Intn(1000)) * c})
	}
}

func TestSign2OfSwappedProducts(t *testing.T) {
	for _, a := range extremes {
		for _, b := range extremes {
			for _, c := range extremes {
				for _, d := range extremes {
					if x, y := exact.Sign2(a, b, c, d), exact.Sign2(c, d, a, b); x != -y {
						t.Fatalf("Sign2 of %d, %d, %d, %d is %d, and %d swapped", a, b, c, d, x, y)
					}
				}
			}
		}
	}
}

func TestCmpIsAnOrder(t *testing.T) {
	var l []api.Ratio
	for _, n := range []int{least, -7, -1, 0, 1, 2, 6, most} {
		for _, d := range []int{1, 2, 6, most - 1, most} {
			l = append(l, api.Ratio{N: n, D: d})
		}
	}
	for _, x := range l {
		if exact.Cmp(x, x) != 0 {
			t.Errorf("%v is not equal to itself", x)
		}
		for _, y := range l {
			if exact.Cmp(x, y) != -exact.Cmp(y, x) {
				t.Errorf("%v and %v have no order", x, y)
			}
			for _, z := range l {
				if exact.Cmp(x, y) <= 0 && exact.Cmp(y, z) <= 0 && exact.Cmp(x, z) > 0 {
					t.Errorf("%v, %v and %v are out of order", x, y, z)
				}
			}
		}
	}
}

func TestEqualRatiosHaveOneLowest(t *testing.T) {
	l := ratios()
	for n := -6; n <= 6; n++ {
		for d := 1; d <= 6; d++ {
			l = append(l, api.Ratio{N: n, D: d})
		}
	}
	for _, x := range l {
		for _, y := range l {
			lx, okX := exact.Lowest(x)
			ly, okY := exact.Lowest(y)
			if equal := exact.Cmp(x, y) == 0; !okX || !okY || equal != (lx == ly) {
				t.Fatalf("%v and %v: equal is %v, but their lowest are %v and %v", x, y, equal, lx, ly)
			}
		}
	}
}
