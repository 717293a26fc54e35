package num

import (
	"math"
	"math/big"
	"testing"
)

const (
	most  = math.MaxInt64
	least = math.MinInt64
)

// edges are numbers at and beside what fits, and beside its roots.
func edges() []int64 {
	list := []int64{0, least, least + 1, least / 2, least/2 - 1, least / 3}
	for _, n := range []int64{1, 2, 3, 4, 6, 7, 12, 97, 1<<31 - 1, 1 << 31, 1<<32 - 1, 1 << 32, 1<<32 + 1, 3037000499, 3037000500, 1 << 62, 1<<62 - 1, 1<<62 + 1, most / 3, most / 7, most - 1, most} {
		list = append(list, n, -n)
	}
	return list
}

// sameWhole holds an answer against the true number.
func sameWhole(t *testing.T, what string, a, b int64, got int64, ok bool, want *big.Int) {
	t.Helper()
	if fits := want.IsInt64(); ok != fits || fits && got != want.Int64() || !fits && got != 0 {
		t.Errorf("%s of %d and %d: %d %v, not %v", what, a, b, got, ok, want)
	}
}

// A1: at every edge the answer is the true number, or 0 and false just if that is no int64.
func TestA1AgainstTrueNumbers(t *testing.T) {
	for _, a := range edges() {
		for _, b := range edges() {
			x, y := big.NewInt(a), big.NewInt(b)
			n, ok := Add(a, b)
			sameWhole(t, "Add", a, b, n, ok, new(big.Int).Add(x, y))
			n, ok = Sub(a, b)
			sameWhole(t, "Sub", a, b, n, ok, new(big.Int).Sub(x, y))
			n, ok = Mul(a, b)
			sameWhole(t, "Mul", a, b, n, ok, new(big.Int).Mul(x, y))
			n, ok = Gcd(a, b)
			sameWhole(t, "Gcd", a, b, n, ok, new(big.Int).GCD(nil, nil, new(big.Int).Abs(x), new(big.Int).Abs(y)))
		}
		n, ok := Neg(a)
		sameWhole(t, "Neg", a, a, n, ok, new(big.Int).Neg(big.NewInt(a)))
	}
}

// A1: what stands at both ends of what fits, and one step beyond them.
func TestA1Ends(t *testing.T) {
	type answer struct {
		n  int64
		ok bool
	}
	of := func(n int64, ok bool) answer { return answer{n, ok} }
	for i, x := range []struct{ got, want answer }{
		{of(Add(2, 3)), answer{5, true}},
		{of(Add(most-1, 1)), answer{most, true}},
		{of(Add(most, 1)), answer{}},
		{of(Add(least+1, -1)), answer{least, true}},
		{of(Add(least, -1)), answer{}},
		{of(Add(least, least)), answer{}},
		{of(Sub(5, 7)), answer{-2, true}},
		{of(Sub(-1, least)), answer{most, true}},
		{of(Sub(0, least)), answer{}},
		{of(Sub(least, 0)), answer{least, true}},
		{of(Sub(least, 1)), answer{}},
		{of(Mul(-3, 5)), answer{-15, true}},
		{of(Mul(1<<31, -1<<32)), answer{least, true}},
		{of(Mul(1<<31, 1<<32)), answer{}},
		{of(Mul(1<<32, 1<<32)), answer{}},
		{of(Mul(1<<62, 4)), answer{}},
		{of(Mul(least, -1)), answer{}},
		{of(Mul(-1, least)), answer{}},
		{of(Mul(least, least)), answer{}},
		{of(Mul(least, 0)), answer{0, true}},
		{of(Neg(7)), answer{-7, true}},
		{of(Neg(0)), answer{0, true}},
		{of(Neg(most)), answer{-most, true}},
		{of(Neg(least)), answer{}},
		{of(Gcd(12, 18)), answer{6, true}},
		{of(Gcd(-12, -18)), answer{6, true}},
		{of(Gcd(0, 0)), answer{0, true}},
		{of(Gcd(0, -5)), answer{5, true}},
		{of(Gcd(least, 0)), answer{}},
		{of(Gcd(0, least)), answer{}},
		{of(Gcd(least, least)), answer{}},
		{of(Gcd(least, 1<<62)), answer{1 << 62, true}},
		{of(Gcd(least, most)), answer{1, true}},
	} {
		if x.got != x.want {
			t.Errorf("%d: %v, not %v", i, x.got, x.want)
		}
	}
}
