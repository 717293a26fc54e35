package num

import (
	"math/big"
	"testing"
)

// pair is what a call answers.
type pair struct {
	r  Rat
	ok bool
}

func of(r Rat, ok bool) pair { return pair{r, ok} }

func yes(p, q int64) pair { return pair{Rat{p, q}, true} }

// right is p / q; a test that asks for one that is none is wrong.
func right(t *testing.T, p, q int64) Rat {
	t.Helper()
	r, ok := Make(p, q)
	if !ok {
		t.Fatalf("no rat: %d / %d", p, q)
	}
	return r
}

func trueRat(a Rat) *big.Rat { return big.NewRat(a.P, a.Q) }

// sameRat holds an answer against the true number, that big tells in its lowest terms.
func sameRat(t *testing.T, what string, a, b Rat, got pair, want *big.Rat) {
	t.Helper()
	expect := pair{}
	if want.Num().IsInt64() && want.Denom().IsInt64() {
		expect = yes(want.Num().Int64(), want.Denom().Int64())
	}
	if got != expect {
		t.Errorf("%v %s %v: %v, not %v", a, what, b, got, expect)
	}
}

// rats are right ones of every sign and size.
func rats() []Rat {
	numbers := []int64{0, 1, -1, 2, 3, -6, 7, 35, 1<<31 - 1, -1 << 32, 3037000500, 1 << 62, 1<<62 + 1, most / 7, most - 1, most, -most, least, least + 2}
	seen := map[Rat]int{}
	var list []Rat
	for _, p := range numbers {
		for _, q := range numbers {
			r, ok := Make(p, q)
			if ok && seen[r] == 0 {
				seen[r] = 1
				list = append(list, r)
			}
		}
	}
	return list
}

// A2: at every edge Make tells the lowest terms, or the zero Rat and false just if they do not fit.
func TestA2AgainstTrueNumbers(t *testing.T) {
	for _, p := range edges() {
		for _, q := range edges() {
			if q == 0 {
				if got := of(Make(p, q)); got != (pair{}) {
					t.Errorf("%d / 0: %v", p, got)
				}
				continue
			}
			sameRat(t, "made", Rat{p, q}, Rat{}, of(Make(p, q)), big.NewRat(p, q))
		}
		if Whole(p) != (Rat{p, 1}) {
			t.Errorf("Whole of %d: %v", p, Whole(p))
		}
	}
}

// A2: signs, 0, both ends, and q that is 0.
func TestA2Edges(t *testing.T) {
	for _, x := range []struct {
		p, q int64
		want pair
	}{
		{1, 2, yes(1, 2)},
		{6, -4, yes(-3, 2)},
		{-6, -4, yes(3, 2)},
		{0, 9, yes(0, 1)},
		{0, least, yes(0, 1)},
		{least, 1, yes(least, 1)},
		{least, -2, yes(1<<62, 1)},
		{least, least, yes(1, 1)},
		{2, least, yes(-1, 1<<62)},
		{most, -most, yes(-1, 1)},
		{least, most, yes(least, most)},
		{least, -1, pair{}},
		{least, -3, pair{}},
		{1, least, pair{}},
		{most, least, pair{}},
		{5, 0, pair{}},
		{0, 0, pair{}},
		{least, 0, pair{}},
	} {
		if got := of(Make(x.p, x.q)); got != x.want {
			t.Errorf("%d / %d: %v, not %v", x.p, x.q, got, x.want)
		}
	}
}

// A3: of all pairs of rats each answer is the true one, or none just if that does not fit.
func TestA3AgainstTrueNumbers(t *testing.T) {
	list := rats()
	for _, a := range list {
		x := trueRat(a)
		for _, b := range list {
			y := trueRat(b)
			sameRat(t, "plus", a, b, of(a.Plus(b)), new(big.Rat).Add(x, y))
			sameRat(t, "minus", a, b, of(a.Minus(b)), new(big.Rat).Sub(x, y))
			sameRat(t, "times", a, b, of(a.Times(b)), new(big.Rat).Mul(x, y))
			if b.P != 0 {
				sameRat(t, "over", a, b, of(a.Over(b)), new(big.Rat).Quo(x, y))
			} else if got := of(a.Over(b)); got != (pair{}) {
				t.Errorf("%v over 0: %v", a, got)
			}
			if got := a.Cmp(b); got != x.Cmp(y) {
				t.Errorf("%v against %v: %d", a, b, got)
			}
		}
	}
}

// A3: what fits comes back, however large what it is made of is on the way.
func TestA3ThereAndBack(t *testing.T) {
	list := rats()
	for _, a := range list {
		for _, c := range list {
			if b, ok := c.Minus(a); ok && of(a.Plus(b)) != (pair{c, true}) {
				t.Errorf("%v plus %v is not %v", a, b, c)
			}
			if b, ok := c.Over(a); ok && of(b.Times(a)) != (pair{c, true}) {
				t.Errorf("%v times %v is not %v", b, a, c)
			}
		}
	}
}

// A3: the document's example, 0, both ends, and what is large on the way alone.
func TestA3Edges(t *testing.T) {
	r := func(p, q int64) Rat { return right(t, p, q) }
	for i, x := range []struct{ got, want pair }{
		{of(r(1, 2).Plus(r(1, 3))), yes(5, 6)},
		{of(r(most, 2).Plus(r(most, 2))), yes(most, 1)},
		{of(r(most, 1).Plus(r(1, 1))), pair{}},
		{of(r(1, most).Plus(r(1, most-1))), pair{}},
		{of(r(least, 1).Plus(r(least, 1))), pair{}},
		{of(r(most, 2).Minus(r(most, 3))), yes(most, 6)},
		{of(r(-1, 1).Minus(r(least, 1))), yes(most, 1)},
		{of(r(0, 1).Minus(r(least, 1))), pair{}},
		{of(r(least, most).Minus(r(least, most))), yes(0, 1)},
		{of(r(2, 3).Times(r(-9, 4))), yes(-3, 2)},
		{of(r(most, 2).Times(r(2, most))), yes(1, 1)},
		{of(r(least, most).Times(r(most, 1<<62))), yes(-2, 1)},
		{of(r(most, 1).Times(r(2, 1))), pair{}},
		{of(r(1, most).Times(r(1, 2))), pair{}},
		{of(r(0, 1).Times(r(least, 1))), yes(0, 1)},
		{of(r(2, 3).Over(r(-4, 9))), yes(-3, 2)},
		{of(r(least, 3).Over(r(least, 5))), yes(5, 3)},
		{of(r(2, 1).Over(r(least, 1))), yes(-1, 1<<62)},
		{of(r(1, 1).Over(r(least, 1))), pair{}},
		{of(r(least, 1).Over(r(-1, 1))), pair{}},
		{of(r(0, 1).Over(r(least, 1))), yes(0, 1)},
		{of(r(1, 1).Over(r(0, 1))), pair{}},
		{of(r(0, 1).Over(r(0, 1))), pair{}},
	} {
		if x.got != x.want {
			t.Errorf("%d: %v, not %v", i, x.got, x.want)
		}
	}
}

// A3: Cmp is exact where the products that decide it are far too large.
func TestA3Cmp(t *testing.T) {
	for _, x := range []struct {
		a, b Rat
		want int
	}{
		{Rat{1, 2}, Rat{1, 2}, 0},
		{Rat{-1, 2}, Rat{1, 3}, -1},
		{Rat{most, most - 1}, Rat{most - 1, most - 2}, -1},
		{Rat{least, most}, Rat{-1, 1}, -1},
		{Rat{least, 1}, Rat{most, 1}, -1},
		{Rat{least, 1}, Rat{least, 1}, 0},
	} {
		if got := x.a.Cmp(x.b); got != x.want {
			t.Errorf("%v against %v: %d", x.a, x.b, got)
		}
		if got := x.b.Cmp(x.a); got != -x.want {
			t.Errorf("%v against %v: %d", x.b, x.a, got)
		}
	}
}

// A3: the whole numbers beside a rat, on both sides of 0 and at both ends.
func TestA3FloorAndCeil(t *testing.T) {
	for _, x := range []struct {
		a           Rat
		floor, ceil int64
	}{
		{Rat{7, 2}, 3, 4},
		{Rat{-7, 2}, -4, -3},
		{Rat{-3, 1}, -3, -3},
		{Rat{0, 1}, 0, 0},
		{Rat{1, most}, 0, 1},
		{Rat{-1, most}, -1, 0},
		{Rat{least, most}, -2, -1},
		{Rat{most, 2}, 1<<62 - 1, 1 << 62},
		{Rat{most, 1}, most, most},
		{Rat{least, 1}, least, least},
		{Rat{least, 3}, least/3 - 1, least / 3},
	} {
		if x.a.Floor() != x.floor || x.a.Ceil() != x.ceil {
			t.Errorf("%v: %d and %d, not %d and %d", x.a, x.a.Floor(), x.a.Ceil(), x.floor, x.ceil)
		}
	}
}

// wrongRats are rats that are not right, of all kinds.
func wrongRats() []Rat {
	numbers := []int64{0, 1, -1, 2, -4, 6, 1 << 62, most, least, least + 1}
	var list []Rat
	for _, p := range numbers {
		for _, q := range numbers {
			if made, ok := Make(p, q); !ok || made != (Rat{p, q}) {
				list = append(list, Rat{p, q})
			}
		}
	}
	return list
}

// R2: with rats that are not right every call ends, and none panics.
func TestWrongRatsEnd(t *testing.T) {
	wrong := wrongRats()
	all := append(rats(), wrong...)
	for _, a := range wrong {
		a.Floor()
		a.Ceil()
		for _, b := range all {
			for _, x := range [][2]Rat{{a, b}, {b, a}} {
				for _, got := range []pair{of(x[0].Plus(x[1])), of(x[0].Minus(x[1])), of(x[0].Times(x[1])), of(x[0].Over(x[1]))} {
					if !got.ok && got.r != (Rat{}) {
						t.Errorf("%v and %v: %v beside a false", x[0], x[1], got.r)
					}
				}
				x[0].Cmp(x[1])
			}
		}
	}
}
