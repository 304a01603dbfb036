// Package exact compares products and ratios, without rounding and for all numbers of type int. It is layer 1: see shared/doc/01-exact.md.
package exact

import (
	"math"
	"math/bits"

	"hachure/api"
)

// product is a number of 128 bits in two's complement, its high word first. Every product of two ints fits.
type product [2]uint64

// Sign2 returns the sign of a b - c d, as if numbers had no bounds.
func Sign2(a, b, c, d int) int {
	// The difference itself may need more than 128 bits; the order of the products does not.
	return orderProducts(multiply(a, b), multiply(c, d))
}

// Cmp returns -1, 0 or 1 as x is less than, equal to, or greater than y; 0 if one of them is not right.
func Cmp(x, y api.Ratio) int {
	if !right(x) || !right(y) {
		return 0
	}
	return Sign2(x.N, y.D, y.N, x.D)
}

// Sqrt returns the greatest number whose square is not greater than n; 0 if n is negative.
func Sqrt(n int) int {
	if n < 0 {
		return 0
	}
	var root uint64
	for bit := uint64(1) << 31; bit > 0; bit >>= 1 {
		// A root of 32 bits has a square of at most 64 bits.
		if next := root | bit; next*next <= uint64(n) {
			root = next
		}
	}
	return int(root)
}

// Gcd returns the greatest number that divides a and b; 0 if both are 0, and 1 if it would be 2^63, which is no int.
func Gcd(a, b int) int {
	x, y := magnitude(a), magnitude(b)
	for y != 0 {
		x, y = y, x%y
	}
	if x > math.MaxInt {
		return 1
	}
	return int(x)
}

// Lowest returns the right ratio that is equal to x and has the least D; false if x is not right.
func Lowest(x api.Ratio) (api.Ratio, bool) {
	if !right(x) {
		return api.Ratio{}, false
	}
	g := Gcd(x.N, x.D)
	return api.Ratio{N: x.N / g, D: x.D / g}, true
}

func right(x api.Ratio) bool {
	return x.D >= 1
}

// magnitude returns the absolute value of n, which for the least int only an unsigned word can hold.
func magnitude(n int) uint64 {
	if n < 0 {
		return -uint64(n)
	}
	return uint64(n)
}

func multiply(a, b int) product {
	high, low := bits.Mul64(uint64(a), uint64(b))
	// As an unsigned word a negative factor is too great by 2^64, which adds the other factor to the high word.
	if a < 0 {
		high -= uint64(b)
	}
	if b < 0 {
		high -= uint64(a)
	}
	return product{high, low}
}

// orderProducts compares the high words, which have a sign, and between equal ones the low words, which have none.
func orderProducts(p, q product) int {
	if s := order(int64(p[0]), int64(q[0])); s != 0 {
		return s
	}
	return order(p[1], q[1])
}

func order[T int64 | uint64](x, y T) int {
	switch {
	case x < y:
		return -1
	case x > y:
		return 1
	}
	return 0
}
