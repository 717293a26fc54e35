// Package num is layer 1: whole numbers and fractions that are exact, or told not to fit.
package num

import (
	"math"
	"math/bits"
)

// Add is the sum (A1).
func Add(a, b int64) (int64, bool) {
	return attempt(func() int64 { return narrow(widen(a).plus(widen(b))) })
}

// Sub is the difference (A1).
func Sub(a, b int64) (int64, bool) {
	return attempt(func() int64 { return narrow(widen(a).minus(widen(b))) })
}

// Mul is the product (A1).
func Mul(a, b int64) (int64, bool) {
	return attempt(func() int64 { return narrow(product(a, b)) })
}

// Neg is the number on the other side of 0 (A1).
func Neg(a int64) (int64, bool) {
	return Sub(0, a)
}

// Gcd is the greatest common divisor, not below 0 (A1).
func Gcd(a, b int64) (int64, bool) {
	return attempt(func() int64 { return signed(false, divisor(size(a), size(b))) })
}

// misfit is what is panicked with when a result cannot be told.
const misfit = "num: it does not fit"

// attempt answers what reckon comes to, or the zero value and false if that does not fit.
// So the reckoning itself is written as if everything fitted.
func attempt[T any](reckon func() T) (got T, ok bool) {
	defer func() {
		if recover() != nil {
			var none T
			got, ok = none, false
		}
	}()
	return reckon(), true
}

// size is how far a is from 0: the least int64 has one too, which is why it is unsigned.
func size(a int64) uint64 {
	if a < 0 {
		return -uint64(a)
	}
	return uint64(a)
}

// signed is the number that is so far from 0, below it or not.
func signed(below bool, far uint64) int64 {
	if below {
		if far > 1<<63 {
			panic(misfit)
		}
		return int64(-far)
	}
	if far > math.MaxInt64 {
		panic(misfit)
	}
	return int64(far)
}

// multiple is the product of two sizes.
func multiple(a, b uint64) uint64 {
	high, low := bits.Mul64(a, b)
	if high != 0 {
		panic(misfit)
	}
	return low
}

// divisor is the greatest common divisor of two sizes; it is 0 only if both are.
func divisor(a, b uint64) uint64 {
	for b != 0 {
		a, b = b, a%b
	}
	return a
}
