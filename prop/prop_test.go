package prop

import (
	"fmt"
	"math"
	"math/rand"
	"slices"
	"testing"
)

// c is a clause, l a list of them, as an assignment.
func c(literals ...int) []int    { return literals }
func l(clauses ...[]int) [][]int { return clauses }
func as(values ...int8) []int8   { return values }

// deep is clauses in memory of their own.
func deep(clauses [][]int) [][]int {
	clauses = slices.Clone(clauses)
	for i := range clauses {
		clauses[i] = slices.Clone(clauses[i])
	}
	return clauses
}

// sameClauses tells whether two lists have the same clauses, in this order.
func sameClauses(a, b [][]int) bool {
	return slices.EqualFunc(a, b, slices.Equal[[]int])
}

// short is clauses and an assignment as a text, as far as it can be looked at.
func short(clauses [][]int, a []int8) string {
	return fmt.Sprintf("%.300s, %.200s", fmt.Sprint(clauses), fmt.Sprint(a))
}

// wantUnit asks for this assignment, and whether there is a conflict.
func wantUnit(t *testing.T, clauses [][]int, a, want []int8, conflict bool) {
	t.Helper()
	wasClauses, was := deep(clauses), slices.Clone(a)
	got, is := Unit(clauses, a)
	if !slices.Equal(got, want) || is != conflict {
		t.Errorf("Unit(%s): %.200v, %v, not %.200v, %v", short(wasClauses, was), got, is, want, conflict)
	}
	if !sameClauses(clauses, wasClauses) || !slices.Equal(a, was) {
		t.Errorf("Unit(%s): what was handed in changed", short(wasClauses, was))
	}
}

// wantEval asks for this answer.
func wantEval(t *testing.T, clauses [][]int, a []int8, want int8) {
	t.Helper()
	wasClauses, was := deep(clauses), slices.Clone(a)
	if got := Eval(clauses, a); got != want {
		t.Errorf("Eval(%s): %d, not %d", short(wasClauses, was), got, want)
	}
	if !sameClauses(clauses, wasClauses) || !slices.Equal(a, was) {
		t.Errorf("Eval(%s): what was handed in changed", short(wasClauses, was))
	}
}

// foreign is literals that are neither true nor open in an assignment of n variables, whatever they are.
func foreign(n int) []int {
	return []int{0, n + 1, -n - 1, n + 2, -n - 2, 127 + n, -128 - n, 1 << 20, -1 << 20, math.MaxInt32, math.MinInt32, math.MaxInt - 1, math.MaxInt, -math.MaxInt, math.MinInt, math.MinInt + 2}
}

// H1: the chapter's example.
func TestUnitExample(t *testing.T) {
	wantUnit(t, l(c(1), c(-1, 2)), as(0, 0, 0), as(0, 1, 1), false)
	wantEval(t, l(c(1), c(-1, 2)), as(0, 0, 0), 0)
	wantEval(t, l(c(1), c(-1, 2)), as(0, 1, 1), 1)
}

// H1, H2: no clauses ask for nothing, of whatever assignment.
func TestNoClauses(t *testing.T) {
	for _, none := range [][][]int{nil, {}, make([][]int, 0, 3)} {
		for _, a := range [][]int8{nil, {}, {0}, {5}, {-1}, {0, 0}, {0, 1, -1, 0}, {3, 127, -128, 0, -2}} {
			wantUnit(t, none, a, a, false)
			wantEval(t, none, a, 1)
		}
	}
}

// H1, H2: a clause of no literals is a conflict, once those ahead of it ask for nothing.
func TestClauseOfNoLiterals(t *testing.T) {
	for _, empty := range [][]int{nil, {}, make([]int, 0, 2)} {
		for _, a := range [][]int8{nil, {}, {0}, {5}, {0, 0}, {0, 1}, {0, -1}} {
			wantUnit(t, l(empty), a, a, true)
			wantUnit(t, l(empty, empty), a, a, true)
			wantEval(t, l(empty), a, -1)
		}
		wantUnit(t, l(empty, c(1)), as(0, 0), as(0, 0), true)
		wantUnit(t, l(c(1), empty), as(0, 0), as(0, 1), true)
		wantUnit(t, l(c(1, 2), empty, c(1)), as(0, 0, 0), as(0, 0, 0), true)
		wantUnit(t, l(c(-2), empty, c(1)), as(0, 0, 0), as(0, 0, -1), true)
		wantEval(t, l(c(1), empty), as(0, 0), -1)
		wantEval(t, l(empty, c(1)), as(0, 1), -1)
		wantEval(t, l(c(1), empty, c(-1)), as(0, 1), -1)
	}
}

// H1: what all open literals of a clause are follows, however often it stands there, and is 1 or -1.
func TestUnitOneOpenLiteral(t *testing.T) {
	for _, often := range []int{1, 2, 3, 10, 100000} {
		wantUnit(t, l(slices.Repeat(c(1), often)), as(0, 0), as(0, 1), false)
		wantUnit(t, l(slices.Repeat(c(-1), often)), as(0, 0), as(0, -1), false)
		wantUnit(t, l(slices.Repeat(c(2), often)), as(0, 0, 0, 0), as(0, 0, 1, 0), false)
		wantUnit(t, l(slices.Repeat(c(-3), often)), as(0, 0, 0, 0), as(0, 0, 0, -1), false)
		wantUnit(t, l(slices.Repeat(c(1, -2, 3), often)), as(0, -1, 1, 0), as(0, -1, 1, 1), false)
		wantUnit(t, l(slices.Repeat(c(1, -2, -3), often)), as(0, 0, 1, 1), as(0, 1, 1, 1), false)
		wantUnit(t, l(append(slices.Repeat(c(2), often), 1)), as(0, -1, 0), as(0, -1, 1), false)
		wantUnit(t, l(append(slices.Repeat(c(2), often), 1)), as(0, 0, -1), as(0, 1, -1), false)
	}
	wantUnit(t, l(c(2, 1, 2, -3, 1, 2)), as(0, -1, 0, 1), as(0, -1, 1, 1), false)
	wantUnit(t, l(c(-2, 1, -3, -2)), as(0, -1, 0, 1), as(0, -1, -1, 1), false)
}

// H1: unlike open literals leave a choice, also those of one variable, wherever they stand.
func TestUnitChoice(t *testing.T) {
	for _, clause := range [][]int{{1, 2}, {2, 1}, {1, -2}, {-1, -2}, {1, 1, 2}, {1, 2, 1}, {1, 2, 2}, {2, 1, 1}, {1, -1}, {-1, 1}, {1, 1, -1}, {1, -1, 1}, {-1, 1, 1}, {-2, -2, 2}, {2, -2, 0}, {3, 1, 4, -1}, {1, 2, 3}} {
		wantUnit(t, l(clause), as(0, 0, 0, -1), as(0, 0, 0, -1), false)
		wantUnit(t, l(clause, clause), as(0, 0, 0, -1), as(0, 0, 0, -1), false)
		wantEval(t, l(clause), as(0, 0, 0, -1), 0)
	}
	wantUnit(t, l(c(1, -1), c(2)), as(0, 0, 0), as(0, 0, 1), false)
	wantUnit(t, l(c(1, -1), c(1)), as(0, 0), as(0, 1), false)
	wantUnit(t, l(c(1, -1), c(-1)), as(0, 0), as(0, -1), false)
	wantUnit(t, l(c(1, -1, 2), c(-1, 1, -2)), as(0, 0, 1), as(0, 0, 1), false)
	wantUnit(t, l(c(1, 2), c(1, -2), c(-1, 2), c(-1, -2)), as(0, 0, 0), as(0, 0, 0), false)
}

// H1, H2: of a clause with a true literal nothing follows, wherever it stands.
func TestTrueLiteral(t *testing.T) {
	for _, rest := range [][]int{nil, {1}, {-1}, {1, 1}, {1, -1}, {1, 4}, {-4}, {3}, {3, 1}, {0}, {99, 1}, {math.MinInt}} {
		for i := range len(rest) + 1 {
			for _, literal := range []int{2, -3} {
				clause := slices.Insert(slices.Clone(rest), i, literal)
				for _, size := range []int8{1, 2, 127} {
					a := as(0, 0, size, -size, 0)
					wantUnit(t, l(clause), a, a, false)
					wantEval(t, l(clause), a, 1)
					wantEval(t, l(clause, c(1)), a, 0)
					wantUnit(t, l(clause, c(-4)), a, as(0, 0, size, -size, -1), false)
				}
			}
		}
	}
}

// H1, H2: the literal 0, and those of variables that are not there, are neither true nor open.
func TestForeignLiterals(t *testing.T) {
	for n, all := range [][][]int8{{nil, {}, {0}, {1}, {-1}, {127}}, {{0, 0}, {1, 1}, {-1, -1}, {4, 0}}, {{0, 0, 0}, {1, 1, 1}, {-1, -1, 0}}} {
		for _, a := range all {
			for _, x := range foreign(n) {
				wantUnit(t, l(c(x)), a, a, true)
				wantUnit(t, l(c(x, x)), a, a, true)
				wantEval(t, l(c(x)), a, -1)
				for _, y := range foreign(n) {
					wantUnit(t, l(c(x, y, x)), a, a, true)
					wantEval(t, l(c(x, y, x)), a, -1)
				}
			}
		}
	}
}

// H1, H2: beside such literals others are what they are.
func TestForeignLiteralsBesideOthers(t *testing.T) {
	for _, x := range foreign(2) {
		for _, y := range foreign(2) {
			wantUnit(t, l(c(x, 1, y)), as(7, 0, 0), as(7, 1, 0), false)
			wantUnit(t, l(c(1, x, 1, y)), as(7, 0, 0), as(7, 1, 0), false)
			wantUnit(t, l(c(x, y, -2)), as(-7, 0, 0), as(-7, 0, -1), false)
			wantUnit(t, l(c(x, 1, y, 2)), as(0, 0, 0), as(0, 0, 0), false)
			wantUnit(t, l(c(x, 1, y, -1)), as(0, 0, 0), as(0, 0, 0), false)
			wantUnit(t, l(c(x, 1, y, -2)), as(0, 0, -1), as(0, 0, -1), false)
			wantUnit(t, l(c(x, 1, y, -2)), as(0, -1, 1), as(0, -1, 1), true)
			wantUnit(t, l(c(1), c(x, y)), as(0, 0, 0), as(0, 1, 0), true)
			wantUnit(t, l(c(x, y), c(1)), as(0, 0, 0), as(0, 0, 0), true)
			wantEval(t, l(c(x, 1, y)), as(7, 0, 0), 0)
			wantEval(t, l(c(x, 1, y)), as(7, 1, 0), 1)
			wantEval(t, l(c(x, 1, y)), as(7, -1, 0), -1)
			wantEval(t, l(c(1), c(x, y)), as(7, 1, 0), -1)
		}
	}
}

// H1, H2: an assignment has the variables from 1 to its last place, and no others.
func TestLengths(t *testing.T) {
	for n := range 40 {
		a := make([]int8, n)
		for v := 1; v < 45; v++ {
			for _, literal := range []int{v, -v} {
				if v >= n {
					wantUnit(t, l(c(literal)), a, a, true)
					wantEval(t, l(c(literal)), a, -1)
					continue
				}
				want := slices.Clone(a)
				want[v] = int8(literal / v)
				wantUnit(t, l(c(literal)), a, want, false)
				wantUnit(t, l(c(literal), c(-literal)), a, want, true)
				wantEval(t, l(c(literal)), a, 0)
				wantEval(t, l(c(literal)), want, 1)
				wantEval(t, l(c(-literal)), want, -1)
			}
		}
	}
}

// H1: place 0 says nothing, and stays as it is, whatever it is.
func TestPlaceNothing(t *testing.T) {
	for _, first := range as(0, 1, -1, 5, -5, 127, -128) {
		wantUnit(t, nil, as(first), as(first), false)
		wantUnit(t, l(c(0)), as(first), as(first), true)
		wantUnit(t, l(c(1)), as(first), as(first), true)
		wantUnit(t, l(c(-1)), as(first), as(first), true)
		wantUnit(t, l(c(1)), as(first, 0), as(first, 1), false)
		wantUnit(t, l(c(0, -1)), as(first, 0), as(first, -1), false)
		wantUnit(t, l(c(1), c(0)), as(first, 0), as(first, 1), true)
		wantEval(t, l(c(0)), as(first), -1)
		wantEval(t, l(c(0, 1)), as(first, 0), 0)
		wantEval(t, l(c(0, 1)), as(first, 9), 1)
		wantEval(t, l(c(0, 1)), as(first, -9), -1)
	}
}

// H1, H2: above 0 is true, below 0 is not true, by whatever number, and stays that number.
func TestOtherValues(t *testing.T) {
	for value := math.MinInt8; value <= math.MaxInt8; value++ {
		v := int8(value)
		if v == 0 {
			continue
		}
		literal := 1
		if v < 0 {
			literal = -1
		}
		wantUnit(t, l(c(literal)), as(0, v), as(0, v), false)
		wantUnit(t, l(c(-literal)), as(0, v), as(0, v), true)
		wantUnit(t, l(c(-literal, 2)), as(0, v, 0), as(0, v, 1), false)
		wantUnit(t, l(c(-2, -literal)), as(0, v, 0), as(0, v, -1), false)
		wantUnit(t, l(c(literal, 2)), as(0, v, 0), as(0, v, 0), false)
		wantUnit(t, l(c(-literal, 2), c(-2)), as(v, v, 0, v), as(v, v, 1, v), true)
		wantEval(t, l(c(literal)), as(0, v), 1)
		wantEval(t, l(c(-literal)), as(0, v), -1)
		wantEval(t, l(c(-literal, 2)), as(0, v, 0), 0)
		wantEval(t, l(c(literal), c(2, literal)), as(0, v, 0), 1)
	}
}

// H1: a conflict at once, and behind other steps, is the end: what has followed so far stands, no more.
func TestUnitConflict(t *testing.T) {
	wantUnit(t, l(c(1)), as(0, -1), as(0, -1), true)
	wantUnit(t, l(c(1, 2), c(3)), as(0, -1, -1, 0), as(0, -1, -1, 0), true)
	wantUnit(t, l(c(3), c(1, 2)), as(0, -1, -1, 0), as(0, -1, -1, 1), true)
	wantUnit(t, l(c(1), c(-1)), as(0, 0), as(0, 1), true)
	wantUnit(t, l(c(-1), c(1)), as(0, 0), as(0, -1), true)
	wantUnit(t, l(c(1), c(-1), c(2)), as(0, 0, 0), as(0, 1, 0), true)
	wantUnit(t, l(c(2), c(1), c(-1)), as(0, 0, 0), as(0, 1, 1), true)
	wantUnit(t, l(c(3), c(1), c(-3, -1), c(2)), as(0, 0, 0, 0), as(0, 1, 0, 1), true)
	wantUnit(t, l(c(1), c(-1, 2), c(-2, 3), c(-3, -1), c(4)), as(0, 0, 0, 0, 0), as(0, 1, 1, 1, 0), true)
	wantUnit(t, l(c(-1, 2), c(-1, -2), c(1)), as(0, 0, 0), as(0, 1, 1), true)
	wantUnit(t, l(c(-1, -2), c(-1, 2), c(1)), as(0, 0, 0), as(0, 1, -1), true)
}

// H1: each time the first such clause is taken, from the first clause on again.
func TestUnitFirstClauseEachTime(t *testing.T) {
	// What comes of the last clause makes the first one ask ahead of those between.
	wantUnit(t, l(c(-3, 1), c(-3, 2), c(3), c(-1, -2), c(4)), as(0, 0, 0, 0, 0), as(0, 1, 1, 1, 0), true)
	wantUnit(t, l(c(-1, 2), c(1), c(-2, -3), c(-1, 3)), as(0, 0, 0, 0), as(0, 1, 1, -1), true)
	wantUnit(t, l(c(-1, 2), c(1), c(-1, 3), c(-2, -3)), as(0, 0, 0, 0), as(0, 1, 1, 1), true)
	// A conflict that is met further on is not yet there when one further ahead comes to be.
	wantUnit(t, l(c(-1), c(2), c(1)), as(0, 0, 0), as(0, -1, 1), true)
	wantUnit(t, l(c(-2, -1), c(1), c(2), c(3)), as(0, 0, 0, 0), as(0, 1, -1, 0), true)
	wantUnit(t, l(c(-1, 2), c(-1, 3), c(1), c(-2)), as(0, 0, 0, 0), as(0, 1, 1, 1), true)
	wantUnit(t, l(c(-1, 2), c(1), c(-2), c(-1, 3)), as(0, 0, 0, 0), as(0, 1, 1, 0), true)
	// What is asked for by one clause alone is only known after what stands ahead of it.
	wantUnit(t, l(c(-2, 1), c(3, 2), c(-3)), as(0, 0, 0, 0), as(0, 1, 1, -1), false)
	wantUnit(t, l(c(-4, -5), c(-1, 4), c(-1, 5), c(1), c(-4)), as(0, 0, 0, 0, 0, 0), as(0, 1, 0, 0, 1, -1), true)
}

// H1: chains of clauses, in order and from behind, all of which follows, up to a conflict or without one.
func TestUnitChains(t *testing.T) {
	for _, count := range []int{1, 2, 10, 1500} {
		chain := l(c(1))
		for v := 1; v < count; v++ {
			chain = append(chain, c(-v, v+1))
		}
		none := make([]int8, count+1)
		all := slices.Repeat(as(1), count+1)
		all[0] = 0
		back := deep(chain)
		slices.Reverse(back)
		wantUnit(t, chain, none, all, false)
		wantUnit(t, back, none, all, false)
		wantUnit(t, append(deep(chain), c(-count)), none, all, true)
		wantEval(t, chain, none, 0)
		wantEval(t, chain, all, 1)
		wantEval(t, append(deep(chain), c(-count)), all, -1)
	}
	long := make([]int, 100000)
	a := make([]int8, len(long)+1)
	for i := range long {
		long[i], a[i+1] = i+1, -1
	}
	wantUnit(t, l(long), a, a, true)
	a[70000] = 0
	want := slices.Clone(a)
	want[70000] = 1
	wantUnit(t, l(long), a, want, false)
	a[30000] = 0
	wantUnit(t, l(long), a, a, false)
	wantEval(t, l(long), a, 0)
}

// H2: -1 is ahead of 0, 0 of 1, wherever the clauses stand.
func TestEvalOrder(t *testing.T) {
	a := as(0, 1, -1, 0)
	kinds := []struct {
		clause []int
		is     int8
	}{{c(1), 1}, {c(-2), 1}, {c(-1, 3, 1), 1}, {c(3), 0}, {c(3, -3), 0}, {c(3, 2, 3), 0}, {c(2, -3), 0}, {c(2), -1}, {c(-1), -1}, {c(2, -1, 4, 0), -1}, {c(), -1}}
	for _, x := range kinds {
		wantEval(t, l(x.clause), a, x.is)
		for _, y := range kinds {
			wantEval(t, l(x.clause, y.clause), a, min(x.is, y.is))
			for _, z := range kinds {
				wantEval(t, l(x.clause, y.clause, z.clause), a, min(x.is, y.is, z.is))
			}
		}
	}
}

// H2: it tells what is there, not what follows.
func TestEvalAddsNothing(t *testing.T) {
	wantEval(t, l(c(1), c(-1)), as(0, 0), 0)
	wantEval(t, l(c(1), c(-1, 2), c(-2)), as(0, 0, 0), 0)
	wantEval(t, l(c(1, -1)), as(0, 0), 0)
	wantEval(t, l(c(1, -1)), as(0, 1), 1)
	wantEval(t, l(c(1, -1)), as(0, -1), 1)
}

// grown is some clauses over about so many variables, and an assignment of them.
func grown(source *rand.Rand, vars int) ([][]int, []int8) {
	literals := foreign(vars)
	clauses := make([][]int, source.Intn(12))
	for i := range clauses {
		clauses[i] = make([]int, source.Intn(5))
		for k := range clauses[i] {
			if source.Intn(15) == 0 {
				clauses[i][k] = literals[source.Intn(len(literals))]
			} else {
				clauses[i][k] = (1 + source.Intn(vars)) * (1 - 2*source.Intn(2))
			}
		}
		if len(clauses[i]) == 0 && source.Intn(4) > 0 {
			clauses[i] = c(1 + source.Intn(vars))
		}
	}
	a := make([]int8, vars+1)
	for i := range a {
		if source.Intn(4) == 0 {
			a[i] = int8(source.Intn(256) - 128)
		}
	}
	return clauses, a
}

// sorted is the literals of a clause that are true, and those that are open, each once, by the chapter's words.
func sorted(clause []int, a []int8) (trues, opens map[int]int) {
	trues, opens = map[int]int{}, map[int]int{}
	for v := 1; v < len(a); v++ {
		for _, literal := range []int{v, -v} {
			switch {
			case !slices.Contains(clause, literal):
			case a[v] == 0:
				opens[literal] = v
			case a[v] > 0 && literal > 0, a[v] < 0 && literal < 0:
				trues[literal] = v
			}
		}
	}
	return trues, opens
}

// unitByWords is H1, step by step as the chapter says it.
func unitByWords(clauses [][]int, a []int8) ([]int8, bool) {
	a = slices.Clone(a)
	for {
		first := slices.IndexFunc(clauses, func(clause []int) bool {
			trues, opens := sorted(clause, a)
			return len(trues) == 0 && len(opens) <= 1
		})
		if first < 0 {
			return a, false
		}
		_, opens := sorted(clauses[first], a)
		if len(opens) == 0 {
			return a, true
		}
		for literal, v := range opens {
			a[v] = int8(literal / v)
		}
	}
}

// evalByWords is H2, as the chapter says it.
func evalByWords(clauses [][]int, a []int8) int8 {
	count := 0
	for _, clause := range clauses {
		trues, opens := sorted(clause, a)
		if len(trues)+len(opens) == 0 {
			return -1
		}
		if len(trues) > 0 {
			count++
		}
	}
	if count == len(clauses) {
		return 1
	}
	return 0
}

// H1, H2: of many clauses and assignments, all that the chapter's words say.
func TestByWords(t *testing.T) {
	source := rand.New(rand.NewSource(61))
	evals, conflicts, steps := map[int8]int{}, map[bool]int{}, map[int]int{}
	for range 40000 {
		clauses, a := grown(source, 1+source.Intn(7))
		want, conflict := unitByWords(clauses, a)
		wantUnit(t, clauses, a, want, conflict)
		is := evalByWords(clauses, a)
		wantEval(t, clauses, a, is)
		wantEval(t, clauses, want, evalByWords(clauses, want))
		if t.Failed() {
			return
		}
		followed := 0
		for i := range a {
			if a[i] != want[i] {
				followed++
			}
		}
		evals[is]++
		conflicts[conflict]++
		steps[min(followed, 3)]++
	}
	if evals[-1] < 1000 || evals[0] < 1000 || evals[1] < 1000 || conflicts[true] < 1000 || conflicts[false] < 1000 || steps[0] < 1000 || steps[1] < 1000 || steps[2] < 1000 || steps[3] < 1000 {
		t.Errorf("too few of a kind: %v, %v, %v", evals, conflicts, steps)
	}
}

// full is an assignment without open variables, of this number's bits.
func full(vars, bits int) []int8 {
	a := make([]int8, vars+1)
	for v := range vars {
		a[v+1] = int8(bits>>v&1*2 - 1)
	}
	return a
}

// agrees tells whether what is not open in a is the same in b.
func agrees(a, b []int8) bool {
	for v := 1; v < len(a); v++ {
		if a[v] != 0 && (a[v] > 0) != (b[v] > 0) {
			return false
		}
	}
	return true
}

// What follows: whatever makes all clauses true, and agrees with the assignment, agrees with what follows.
func TestUnitIsSound(t *testing.T) {
	source := rand.New(rand.NewSource(67))
	agreed := 0
	for range 6000 {
		vars := 1 + source.Intn(6)
		clauses, a := grown(source, vars)
		got, conflict := Unit(clauses, a)
		for bits := range 1 << vars {
			b := full(vars, bits)
			if !agrees(a, b) || evalByWords(clauses, b) != 1 {
				continue
			}
			agreed++
			if conflict || !agrees(got, b) {
				t.Fatalf("Unit(%s): %v, %v, which %v is against", short(clauses, a), got, conflict, b)
			}
		}
	}
	if agreed < 5000 {
		t.Errorf("only %d agreed", agreed)
	}
}

// H1: what is answered is as long as what was handed in, and asks for nothing more.
func TestUnitOfItsAnswer(t *testing.T) {
	source := rand.New(rand.NewSource(71))
	for range 5000 {
		clauses, a := grown(source, 1+source.Intn(8))
		got, conflict := Unit(clauses, a)
		if len(got) != len(a) {
			t.Fatalf("Unit(%s): of %d places, not of %d", short(clauses, a), len(got), len(a))
		}
		for i := range a {
			if a[i] != 0 && got[i] != a[i] || a[i] == 0 && (got[i] < -1 || got[i] > 1) || got[0] != a[0] {
				t.Fatalf("Unit(%s): %v", short(clauses, a), got)
			}
		}
		wantUnit(t, clauses, got, got, conflict)
		if is := Eval(clauses, got); conflict != (is == -1) {
			t.Fatalf("Unit(%s): conflict %v, Eval %d", short(clauses, a), conflict, is)
		}
	}
}

// spoilt writes over all of an assignment, and behind it as far as there is room.
func spoilt(a []int8) {
	room := a[:cap(a)]
	for i := range room {
		room[i] = 99
	}
}

// R1: what is handed in stays as it was and is not kept; what is answered is the caller's.
func TestMemory(t *testing.T) {
	source := rand.New(rand.NewSource(73))
	for range 3000 {
		clauses, a := grown(source, 1+source.Intn(8))
		roomy := make([]int8, len(a)+7)
		copy(roomy, a)
		a = roomy[:len(a)]
		wasClauses, was := deep(clauses), slices.Clone(roomy)
		got, conflict := Unit(clauses, a)
		again, _ := Unit(clauses, a)
		Eval(clauses, a)
		if !sameClauses(clauses, wasClauses) || !slices.Equal(roomy, was) {
			t.Fatalf("what was handed in changed: %s", short(wasClauses, was))
		}
		want := slices.Clone(got)
		spoilt(got)
		if !slices.Equal(roomy, was) || !slices.Equal(again, want) {
			t.Fatalf("something changed with the answer: %s", short(wasClauses, was))
		}
		wantUnit(t, clauses, a, want, conflict)
		got, _ = Unit(clauses, a)
		spoilt(a)
		for _, clause := range clauses {
			for k := range clause {
				clause[k] = 1
			}
		}
		if !slices.Equal(got, want) {
			t.Fatalf("the answer changed with what was handed in: %s", short(wasClauses, was))
		}
	}
}

// H1: the answer is memory of its own also where nothing follows, and where there is a conflict at once.
func TestMemoryOfNoStep(t *testing.T) {
	for _, clauses := range [][][]int{nil, {{}}, {{1, 2}}, {{1, -1}}, {{0}}, {{3}}, {{-3}}, {{9}}} {
		a := as(0, 0, 0, 1)
		got, _ := Unit(clauses, a)
		spoilt(got)
		if !slices.Equal(a, as(0, 0, 0, 1)) {
			t.Errorf("Unit(%v): what was handed in changed with the answer", clauses)
		}
	}
}

// R4: the same answers each time, whatever is asked between.
func TestSteady(t *testing.T) {
	source := rand.New(rand.NewSource(79))
	for range 500 {
		clauses, a := grown(source, 6)
		want, conflict := Unit(clauses, a)
		is := Eval(clauses, a)
		for range 3 {
			Unit(grown(source, 6))
			Eval(grown(source, 6))
			wantUnit(t, clauses, a, want, conflict)
			wantEval(t, clauses, a, is)
		}
	}
}
