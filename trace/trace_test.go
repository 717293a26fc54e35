package trace

import (
	"fmt"
	"math"
	"math/rand"
	"slices"
	"sync"
	"testing"

	"ashlar/api"
	"ashlar/sat"
)

// c is a clause, l a list of them.
func c(literals ...int) []int    { return literals }
func l(clauses ...[]int) [][]int { return clauses }

// deep is clauses in memory of their own.
func deep(clauses [][]int) [][]int {
	clauses = slices.Clone(clauses)
	for i := range clauses {
		clauses[i] = slices.Clone(clauses[i])
	}
	return clauses
}

// sameClauses tells whether two lists have the same clauses, in this order.
func sameClauses(a, b [][]int) bool {
	return slices.EqualFunc(a, b, slices.Equal[[]int])
}

// short is a question as a text, as far as it can be looked at.
func short(clauses, lemmas [][]int) string {
	return fmt.Sprintf("Check(%.300s, %.300s)", fmt.Sprint(clauses), fmt.Sprint(lemmas))
}

// want asks for that answer, and looks whether what was handed in stays as it was.
func want(t *testing.T, clauses, lemmas [][]int, is bool) {
	t.Helper()
	wasClauses, wasLemmas := deep(clauses), deep(lemmas)
	if got := Check(clauses, lemmas); got != is {
		t.Errorf("%s: %v, not %v", short(wasClauses, wasLemmas), got, is)
	}
	if !sameClauses(clauses, wasClauses) || !sameClauses(lemmas, wasLemmas) {
		t.Errorf("%s: what was handed in changed", short(wasClauses, wasLemmas))
	}
}

// two is all clauses of two variables, three those of three: neither has a conflict at once.
func two() [][]int { return l(c(1, 2), c(1, -2), c(-1, 2), c(-1, -2)) }
func three() [][]int {
	return l(c(1, 2, 3), c(1, 2, -3), c(1, -2, 3), c(1, -2, -3), c(-1, 2, 3), c(-1, 2, -3), c(-1, -2, 3), c(-1, -2, -3))
}

// beyond is literals that may not be, wherever they stand.
func beyond() []int {
	return []int{0, 10001, -10001, 10002, 20001, 1 << 15, -1 << 15, 1 << 16, 1<<16 + 1, 1 << 32, 1<<32 + 1, -1<<32 - 1, math.MaxInt32, math.MinInt32, math.MaxInt - 1, math.MaxInt, -math.MaxInt, math.MinInt, math.MinInt + 2}
}

// J1: the chapter's example.
func TestCheckExample(t *testing.T) {
	want(t, l(c(1), c(-1)), l(c()), true)
	want(t, l(c(1), c(-1)), l(nil), true)
}

// J1: without lemmas nothing is shown, whatever the clauses are.
func TestCheckNoLemmas(t *testing.T) {
	for _, none := range [][][]int{nil, {}, make([][]int, 0, 3)} {
		for _, clauses := range [][][]int{nil, {}, l(c()), l(nil), l(c(1)), l(c(1), c(-1)), two(), l(c(), c())} {
			want(t, clauses, none, false)
		}
	}
}

// J1: the last lemma has no literals.
func TestCheckLastLemma(t *testing.T) {
	for _, clauses := range [][][]int{l(c(1), c(-1)), l(c()), append(two(), c())} {
		want(t, clauses, l(c(1)), false)
		want(t, clauses, l(c(1, 1)), false)
		want(t, clauses, l(c(1, -1)), false)
		want(t, clauses, l(c(), c(1)), false)
		want(t, clauses, l(c(), c(), c(2)), false)
		want(t, clauses, l(c(), c(1), c(1, -1)), false)
		want(t, clauses, l(c(1), c(-1)), false)
		want(t, clauses, l(c(), c(1), c()), true)
	}
	want(t, two(), l(c(1)), false)
	want(t, two(), l(c(1), c(2)), false)
	want(t, two(), l(c(1), c(-1)), false)
	want(t, two(), l(c(1), c(), c(1)), false)
	want(t, two(), l(c(1), c(), c(1), c()), true)
}

// J1: a lemma without literals ahead of the last one must follow as any other one, and all follow from it.
func TestCheckLemmaOfNoLiteralsAhead(t *testing.T) {
	want(t, l(c(1), c(-1)), l(c(), c()), true)
	want(t, l(c(1), c(-1)), l(c(), c(), c()), true)
	want(t, l(c(1), c(-1)), l(c(), c(2), c(-3, 4), c()), true)
	want(t, two(), l(c(1), c(), c()), true)
	want(t, two(), l(c(1), c(), c(5), c(-5, 7), c()), true)
	want(t, two(), l(c(), c()), false)
	want(t, two(), l(c(), c(1), c()), false)
	want(t, two(), l(c(1, 2), c(), c()), false)
	want(t, l(c(1)), l(c(), c()), false)
	want(t, nil, l(c(), c()), false)
	want(t, nil, l(c(), c(), c()), false)
}

// J1: of no clauses nothing is shown: only what has a literal and that literal turned follows.
func TestCheckNoClauses(t *testing.T) {
	for _, none := range [][][]int{nil, {}, make([][]int, 0, 4)} {
		want(t, none, l(c()), false)
		want(t, none, l(c(1)), false)
		want(t, none, l(c(1), c(-1), c()), false)
		want(t, none, l(c(1, -1)), false)
		want(t, none, l(c(1, -1), c()), false)
		want(t, none, l(c(1, -1), c(-2, 3, 2), c()), false)
		want(t, none, l(c(10000, -10000), c()), false)
	}
}

// J1: with a clause without literals there is a conflict at once, and all follows.
func TestCheckClauseOfNoLiterals(t *testing.T) {
	for _, empty := range [][]int{nil, {}, make([]int, 0, 2)} {
		for _, clauses := range [][][]int{l(empty), l(empty, empty), l(empty, c(1)), l(c(1, 2), empty), l(c(-3), empty, c(3))} {
			want(t, clauses, l(empty), true)
			want(t, clauses, l(empty, empty), true)
			want(t, clauses, l(c(1), empty), true)
			want(t, clauses, l(c(1), c(-1), c(4, 5, -6), empty), true)
			want(t, clauses, l(c(10000), c(-10000), empty), true)
			want(t, clauses, l(c(0), empty), false)
		}
	}
}

// J1: literals are from -10000 to 10000, in a clause and in a lemma.
func TestCheckLiteralsAtTheEnds(t *testing.T) {
	for _, literal := range []int{1, -1, 9999, -9999, 10000, -10000} {
		want(t, l(c(literal), c(-literal)), l(c()), true)
		want(t, l(c(literal)), l(c()), false)
		want(t, l(c(literal), c(-literal, 2)), l(c(2), c()), false)
		want(t, l(c(2, literal), c(2, -literal), c(-2, literal), c(-2, -literal)), l(c(literal), c()), true)
		want(t, l(c(2, literal), c(2, -literal), c(-2, literal), c(-2, -literal)), l(c(-literal), c()), true)
		want(t, l(c(2, literal), c(2, -literal), c(-2, literal), c(-2, -literal)), l(c()), false)
		want(t, append(two(), c(literal, 2)), l(c(1), c()), true)
		want(t, append(two(), c(literal)), l(c(1), c()), true)
		want(t, two(), l(c(1, literal), c(1), c()), true)
		want(t, two(), l(c(literal, 1, -literal), c(1), c()), true)
		want(t, two(), l(c(1), c(literal), c()), true)
		want(t, two(), l(c(1), c(), c(literal), c()), true)
	}
}

// J1: the literal 0, and what is beyond, wherever it stands, and however much follows without it.
func TestCheckLiteralsThatMayNotBe(t *testing.T) {
	for _, wrong := range beyond() {
		for _, row := range [][]int{c(wrong), c(1, wrong), c(wrong, 1), c(1, wrong, 2), c(1, -1, wrong), c(wrong, 1, -1), c(wrong, wrong), c(wrong, -wrong)} {
			for i := range 3 {
				want(t, slices.Insert(l(c(1), c(-1)), i, row), l(c()), false)
				want(t, slices.Insert(l(c(), c()), i, row), l(c(), c()), false)
			}
			for i := range len(two()) + 1 {
				want(t, slices.Insert(two(), i, row), l(c(1), c()), false)
			}
			for i := range 4 {
				want(t, two(), slices.Insert(l(c(1), c(), c()), i, row), false)
				want(t, l(c()), slices.Insert(l(c(1), c(), c()), i, row), false)
			}
			want(t, l(row), nil, false)
			want(t, nil, l(row), false)
			want(t, l(row), l(row), false)
			want(t, l(row), l(c()), false)
			want(t, l(row, row), l(row, c()), false)
		}
	}
}

// J1: what has a literal and that literal turned follows from anything, and nothing new follows from it.
func TestCheckLiteralAndTurned(t *testing.T) {
	for _, lemma := range [][]int{{3, -3}, {-3, 3}, {1, -1}, {-1, 1}, {3, 4, -3}, {4, -3, 3}, {-3, 3, 4}, {3, 3, -3}, {3, -3, -3}, {1, 2, -1}, {-2, 1, 2}, {5, 6, 7, 8, -6}, {10000, -10000}, {-10000, 1, 10000}} {
		want(t, two(), l(lemma, c(1), c()), true)
		want(t, two(), l(c(1), lemma, c()), true)
		want(t, two(), l(lemma, lemma, c(-2), lemma, c()), true)
		want(t, two(), l(lemma, c()), false)
		want(t, two(), l(c(1), lemma), false)
		want(t, l(c(1)), l(lemma, c()), false)
		want(t, l(c(1), c(-1)), l(lemma, c()), true)
		want(t, l(lemma), l(c()), false)
		want(t, l(lemma), l(lemma, c()), false)
		want(t, l(lemma, c(1, 2), c(1, -2)), l(c(1), c()), false)
		want(t, append(two(), lemma), l(c(1), c()), true)
	}
	want(t, two(), l(c(3), c(1), c()), false)
	want(t, two(), l(c(3, 4), c(1), c()), false)
	want(t, two(), l(c(3, -4), c(1), c()), false)
}

// J1: a lemma has the help of those ahead of it, and needs it.
func TestCheckHelpOfLemmasAhead(t *testing.T) {
	want(t, two(), l(c()), false)
	want(t, two(), l(c(1), c()), true)
	want(t, two(), l(c(-1), c()), true)
	want(t, two(), l(c(2), c()), true)
	want(t, two(), l(c(-2), c()), true)
	want(t, three(), l(c(1, 2), c(1), c(-1, 2), c()), true)
	want(t, three(), l(c(1, 2), c(1), c(-1, -2), c()), true)
	want(t, three(), l(c(1, 2), c(-2, 3), c(1), c(3, -1), c()), true)
	want(t, three(), l(c(1), c(-1, 2), c()), false)
	want(t, three(), l(c(1, 2), c(-1, 2), c()), false)
	want(t, three(), l(c(1, 2), c(1), c()), false)
	want(t, three(), l(c(1, 2), c(-1, 2), c(2), c()), false)
	want(t, three(), l(c(1, 2), c(-1, 2), c(2), c(-2, 1), c()), true)
	want(t, l(c(-1, 2), c(-1, -2), c(1, 3), c(1, -3)), l(c()), false)
	want(t, l(c(-1, 2), c(-1, -2), c(1, 3), c(1, -3)), l(c(-1), c()), true)
	want(t, l(c(-1, 2), c(-1, -2), c(1, 3), c(1, -3)), l(c(1), c()), true)
}

// J1: of one behind it, or of itself, a lemma has no help.
func TestCheckNoHelpFromBehind(t *testing.T) {
	want(t, two(), l(c(), c(1), c()), false)
	want(t, two(), l(c(), c(1), c(-1), c()), false)
	want(t, three(), l(c(1), c(1, 2), c(-1, 2), c()), false)
	want(t, three(), l(c(1, 2), c(), c(1), c(-1, 2), c()), false)
	want(t, three(), l(c(1), c(1, 2), c(1), c(-1, 2), c()), false)
	want(t, three(), l(c(1, 2), c(1), c(2), c(-1, 2), c()), true)
	want(t, l(c(1, 2, 3)), l(c(1), c(-1), c()), false)
	want(t, l(c(1, 2)), l(c(3), c()), false)
	want(t, l(c(1, 2)), l(c(1, 2), c()), false)
	want(t, l(c(1)), l(c(-1), c()), false)
}

// J1: each lemma must follow: the first, one in the middle, and the last.
func TestCheckLemmaThatDoesNotFollow(t *testing.T) {
	proof := l(c(1, 2), c(1), c(-1, 2), c())
	for i := range proof {
		for _, lemma := range [][]int{c(4), c(-4), c(4, 5), c(-4, 5, -6), c(4, 4), c(10000), c(-10000)} {
			is := i > 2 // Behind the first three there is a conflict at once, and all follows.
			want(t, three(), slices.Insert(deep(proof), i, lemma), is)
		}
		if i < 3 {
			want(t, three(), slices.Delete(deep(proof), i, i+1), false)
		}
	}
	want(t, l(c(1), c(1, 2)), l(c()), false)
	want(t, l(c(1), c(1, 2)), l(c(1), c()), false)
	want(t, l(c(1), c(1, 2)), l(c(1), c(1, 3), c()), false)
	want(t, l(c(1), c(-1, 2)), l(c(2), c(3), c()), false)
	want(t, l(c(1), c(-1, 2)), l(c(3), c(2), c()), false)
	want(t, l(c(1), c(-1, 2)), l(c(2), c(), c(2)), false)
}

// J1: whatever stands there as a clause follows, and so does what has more literals.
func TestCheckClausesAgain(t *testing.T) {
	want(t, two(), append(two(), c(1), c()), true)
	want(t, two(), append(two(), c()), false)
	want(t, l(c(1), c(-1)), l(c(1), c(-1), c()), true)
	want(t, three(), l(c(3, 2, 1), c(2, 1, 3, 7), c(2, 1), c(2, 1, 9), c(1), c(1, -8), c(2, -1), c()), true)
	want(t, l(c(1, 2, 3)), l(c(3, 1, 2), c(1, 2, 3, 4), c()), false)
	want(t, l(c(1, 2, 3)), l(c(1, 2), c()), false)
}

// J1: how often a literal stands in a clause or a lemma is all the same.
func TestCheckLiteralsMoreThanOnce(t *testing.T) {
	for _, often := range []int{1, 2, 3, 100, 100000} {
		one, other := slices.Repeat(c(1), often), slices.Repeat(c(-1), often)
		want(t, l(one, other), l(c()), true)
		want(t, l(one, c(-1)), l(c()), true)
		want(t, l(one), l(c()), false)
		want(t, l(other, c(1, 2)), l(c(2), c()), false)
		want(t, two(), l(one, c()), true)
		want(t, two(), l(other, c()), true)
		want(t, two(), l(one, other, c()), true)
		want(t, two(), l(slices.Repeat(c(3), often), c(1), c()), false)
		want(t, two(), l(slices.Repeat(c(1, 2), often), c(1), c()), true)
		want(t, two(), l(slices.Repeat(c(3, -3), often), c(1), c()), true)
		want(t, l(slices.Repeat(c(1, 2), often), c(1, -2), c(-1, 2, -1), c(-2, -2, -1)), l(c(1), c()), true)
		want(t, l(slices.Repeat(c(1, 2), often), c(1, -2), c(-1, 2, -1), c(-2, -2, -1)), l(c()), false)
		want(t, l(slices.Repeat(c(1, -1), often)), l(c()), false)
	}
}

// J1: variables that only some clause, or only some lemma has, are open as all others are.
func TestCheckVariablesOfSomeAlone(t *testing.T) {
	for _, v := range []int{3, 4, 127, 128, 255, 256, 9999, 10000} {
		want(t, append(two(), c(v)), l(c(1), c()), true)
		want(t, append(two(), c(v, -v)), l(c()), false)
		want(t, l(c(1, v), c(1, -v)), l(c(1), c()), false)
		want(t, l(c(1, v), c(1, -v), c(-1)), l(c()), true)
		want(t, l(c(v)), l(c()), false)
		want(t, l(c(1, v), c(-1)), l(c()), false)
		want(t, l(c(1)), l(c(1, v), c()), false)
		want(t, l(c(1)), l(c(v, -v), c()), false)
		want(t, l(c(1, 2)), l(c(1, 2, v), c(1, 2), c()), false)
		want(t, l(c(1, 2), c(-1, 2)), l(c(2, v), c(2), c()), false)
		want(t, two(), l(c(1, v), c(1, -v), c()), false)
		want(t, two(), l(c(1, v), c(1), c()), true)
		want(t, two(), l(c(1, v), c(v), c()), false)
		want(t, two(), l(c(2, v), c(-2, v), c(v), c(-v), c()), false)
		want(t, two(), l(c(2, v), c(-2, v), c(v), c(2, -v), c(2), c()), true)
	}
}

// J1: chains of lemmas, each with the help of the one ahead, and none without.
func TestCheckChains(t *testing.T) {
	for _, count := range []int{2, 3, 10, 100} {
		clauses, lemmas := l(c(1, count+1), c(1, -count-1), c(-count, count+2), c(-count, -count-2)), l(c(1))
		for v := 1; v < count; v++ {
			clauses = append(clauses, c(-v, v+1))
			lemmas = append(lemmas, c(v+1))
		}
		lemmas = append(lemmas, c())
		want(t, clauses, lemmas, true)
		want(t, clauses, l(c(1), c()), true)
		want(t, clauses, l(c(-count), c()), true)
		want(t, clauses, l(c(count), c()), true)
		want(t, clauses, l(c()), false)
		want(t, clauses, slices.Insert(deep(lemmas), 0, c(count+3)), false)
		slices.Reverse(clauses)
		want(t, clauses, lemmas, true)
		want(t, clauses, lemmas[:len(lemmas)-1], false)
		for i := range clauses {
			without := slices.Delete(deep(clauses), i, i+1)
			want(t, without, lemmas, false)
			if t.Failed() {
				return
			}
		}
	}
}

// J1: many clauses, lemmas, literals and variables.
func TestCheckLarge(t *testing.T) {
	var units, long [][]int
	long = append(long, nil)
	for v := 1; v <= 10000; v++ {
		units = append(units, c(-v))
		long[0] = append(long[0], v)
	}
	want(t, long, l(c()), false)
	want(t, long, l(long[0], c()), false)
	want(t, long, l(long[0][1:], c()), false)
	want(t, units[:300], l(long[0], c()), false)
	want(t, append(l(long[0][:300]), units[:300]...), l(c()), true)
	want(t, append(l(long[0][:301]), units[:300]...), l(c()), false)
	want(t, append(l(long[0][:301]), units[:300]...), l(c(301), c()), false)
	want(t, append(l(long[0][:301]), units[:300]...), l(c(301), c(-301), c()), false)
	all := slices.Repeat(l(c()), 100000)
	want(t, l(c(1), c(-1)), all, true)
	want(t, all, all, true)
	want(t, l(c(1)), all, false)
}

// followsByWords tells whether a lemma follows from clauses, as the chapter of sat says it, by sets of literals.
func followsByWords(clauses [][]int, lemma []int) bool {
	made := map[int]bool{} // the literals that are made true
	for _, literal := range lemma {
		if slices.Contains(lemma, -literal) {
			return true
		}
		made[-literal] = true
	}
	for again := true; again; {
		again = false
		for _, clause := range clauses {
			left := map[int]bool{}
			is := false
			for _, literal := range clause {
				is = is || made[literal]
				if !made[-literal] {
					left[literal] = true
				}
			}
			if !is && len(left) == 0 {
				return true
			}
			for literal := range left {
				if !is && len(left) == 1 {
					made[literal], again = true, true
				}
			}
		}
	}
	return false
}

// shownByWords is what Check tells, as the chapter of sat says it.
func shownByWords(clauses, lemmas [][]int) bool {
	for _, clause := range slices.Concat(clauses, lemmas) {
		for _, literal := range clause {
			if literal == 0 || literal > 10000 || literal < -10000 {
				return false
			}
		}
	}
	if len(lemmas) == 0 || len(lemmas[len(lemmas)-1]) > 0 {
		return false
	}
	for _, lemma := range lemmas {
		if !followsByWords(clauses, lemma) {
			return false
		}
		clauses = append(slices.Clip(clauses), lemma)
	}
	return true
}

// row is a random clause over n variables, of at most so many literals.
func row(r *rand.Rand, n, most int) []int {
	var clause []int
	for range r.Intn(most + 1) {
		clause = append(clause, (r.Intn(n)+1)*(1-2*r.Intn(2)))
	}
	return clause
}

// grown is clauses over n variables, and lemmas most of which follow.
func grown(r *rand.Rand, n int) (clauses, lemmas [][]int) {
	for range r.Intn(3 + 5*n) {
		clause := row(r, n, 3)
		for len(clause) < 2 && r.Intn(15) > 0 {
			clause = row(r, n, 3)
		}
		clauses = append(clauses, clause)
	}
	ahead := deep(clauses)
	for range r.Intn(8) {
		lemma := row(r, n, 3)
		if r.Intn(12) == 0 || followsByWords(ahead, lemma) {
			lemmas, ahead = append(lemmas, lemma), append(ahead, lemma)
		}
	}
	if r.Intn(12) > 0 {
		lemmas = append(lemmas, nil)
	}
	return clauses, lemmas
}

// changed is the same with one literal that is another one, or one lemma that is gone, or at another place.
func changed(r *rand.Rand, clauses, lemmas [][]int) ([][]int, [][]int) {
	clauses, lemmas = deep(clauses), deep(lemmas)
	rows := slices.Concat(clauses, lemmas)
	at := rows[r.Intn(len(rows))]
	switch i := r.Intn(len(lemmas)); {
	case r.Intn(3) == 0:
		lemmas = slices.Delete(lemmas, i, i+1)
	case r.Intn(2) == 0:
		k := r.Intn(len(lemmas))
		lemmas[i], lemmas[k] = lemmas[k], lemmas[i]
	case len(at) > 0:
		at[r.Intn(len(at))] *= -r.Intn(2)
	}
	return clauses, lemmas
}

// tried tells whether some assignment of n variables makes all clauses true, each tried one by one.
func tried(clauses [][]int, n int) bool {
	for bits := range 1 << n {
		if !slices.ContainsFunc(clauses, func(clause []int) bool {
			return !slices.ContainsFunc(clause, func(literal int) bool {
				v := max(literal, -literal)
				return (bits>>(v-1)&1 == 1) == (literal > 0)
			})
		}) {
			return true
		}
	}
	return false
}

// J1: of many clauses and lemmas, all that the chapters' words say; and what follows from it.
func TestCheckByWords(t *testing.T) {
	r := rand.New(rand.NewSource(131))
	seen, rejected, lengths := map[bool]int{}, 0, map[int]int{}
	for range 40000 {
		n := 1 + r.Intn(4)
		clauses, lemmas := grown(r, n)
		is := shownByWords(clauses, lemmas)
		want(t, clauses, lemmas, is)
		if Check(clauses, lemmas) && tried(clauses, n) {
			t.Errorf("%s: some assignment makes all true", short(clauses, lemmas))
		}
		seen[is]++
		if !is {
			if t.Failed() {
				return
			}
			continue
		}
		lengths[min(len(lemmas), 5)]++
		clauses, lemmas = changed(r, clauses, lemmas)
		is = shownByWords(clauses, lemmas)
		want(t, clauses, lemmas, is)
		if !is {
			rejected++
		}
		if t.Failed() {
			return
		}
	}
	if seen[true] < 3000 || seen[false] < 3000 || rejected < 1000 || lengths[1] < 300 || lengths[2] < 300 || lengths[3] < 300 || lengths[4] < 300 || lengths[5] < 300 {
		t.Errorf("too few of a kind: %v, %d, %v", seen, rejected, lengths)
	}
}

// What follows: whatever the lemmas are, where Check says so no assignment makes all clauses true.
func TestCheckIsSound(t *testing.T) {
	r := rand.New(rand.NewSource(137))
	may, said := 0, 0
	for range 20000 {
		n := 1 + r.Intn(5)
		var clauses, lemmas [][]int
		for range r.Intn(4 * n) {
			clauses = append(clauses, row(r, n, 4))
		}
		for range r.Intn(5) {
			lemmas = append(lemmas, row(r, n, 4))
		}
		lemmas = append(lemmas, nil)
		can := tried(clauses, n)
		is := Check(clauses, lemmas)
		if can && is {
			t.Fatalf("%s: some assignment makes all true", short(clauses, lemmas))
		}
		if can {
			may++
		}
		if is {
			said++
		}
	}
	if may < 2000 || said < 2000 {
		t.Errorf("too few of a kind: %d, %d", may, said)
	}
}

// allOf is each clause that has all variables to n, once.
func allOf(n int) [][]int {
	clauses := l(nil)
	for v := 1; v <= n; v++ {
		for i, clause := range clauses {
			clauses = append(clauses, append(slices.Clone(clause), -v))
			clauses[i] = append(slices.Clone(clause), v)
		}
	}
	return clauses
}

// holes asks for n + 1 things in n holes, each in one of its own.
func holes(n int) [][]int {
	var clauses [][]int
	for thing := range n + 1 {
		var in []int
		for hole := range n {
			in = append(in, thing*n+hole+1)
			for other := range thing {
				clauses = append(clauses, c(-(thing*n+hole+1), -(other*n+hole+1)))
			}
		}
		clauses = append(clauses, in)
	}
	return clauses
}

// solved asks whether what sat answers with No is shown; and whether it is told apart from what is not.
func solved(t *testing.T, clauses [][]int, vars int) bool {
	t.Helper()
	answer, _, lemmas := sat.Solve(clauses, vars, math.MaxInt)
	want(t, clauses, lemmas, answer == api.No)
	if answer != api.No {
		want(t, clauses, l(c()), false)
		return false
	}
	want(t, clauses, lemmas[:len(lemmas)-1], false)
	want(t, clauses, append(deep(lemmas), c(1)), false)
	want(t, clauses, append(l(c(vars+1)), lemmas...), followsByWords(clauses, c(vars+1)))
	return true
}

// J1: what sat answers with No is shown.
func TestCheckSolved(t *testing.T) {
	for n := range 9 {
		if !solved(t, allOf(n), n) {
			t.Errorf("all of %d: not No", n)
		}
	}
	for n := range 6 {
		if !solved(t, holes(n), n*(n+1)) {
			t.Errorf("%d holes: not No", n)
		}
	}
	r := rand.New(rand.NewSource(139))
	seen := map[bool]int{}
	for range 3000 {
		n := 1 + r.Intn(12)
		var clauses [][]int
		for range r.Intn(6 * n) {
			clauses = append(clauses, append(row(r, n, 2), row(r, n, 1)...))
		}
		seen[solved(t, clauses, n)]++
	}
	for range 60 {
		var clauses [][]int
		for range 200 {
			clauses = append(clauses, append(append(row(r, 40, 0), 1+r.Intn(40)), -1-r.Intn(40), (1+r.Intn(40))*(1-2*r.Intn(2))))
		}
		seen[solved(t, clauses, 40)]++
	}
	if seen[true] < 500 || seen[false] < 500 {
		t.Errorf("too few of a kind: %v", seen)
	}
}

// J1: without a clause that is needed the lemmas of sat show nothing.
func TestCheckSolvedWithoutOne(t *testing.T) {
	for n := 1; n < 6; n++ {
		_, _, lemmas := sat.Solve(allOf(n), n, math.MaxInt)
		for i := range allOf(n) {
			want(t, slices.Delete(allOf(n), i, i+1), lemmas, false)
		}
	}
	_, _, lemmas := sat.Solve(holes(4), 20, math.MaxInt)
	for i := range holes(4) {
		want(t, slices.Delete(holes(4), i, i+1), lemmas, false)
	}
}

// roomy is clauses with room behind the list and behind each of them, all of which is told beside.
func roomy(clauses [][]int) (list, room [][]int) {
	room = slices.Repeat(l(c(77)), len(clauses)+9)
	for i, clause := range clauses {
		behind := slices.Concat(clause, c(78, 79, 80))
		room[i] = behind[:len(clause)]
	}
	return room[:len(clauses)], room
}

// stretched is clauses with all that there is room for behind each.
func stretched(clauses [][]int) [][]int {
	clauses = slices.Clone(clauses)
	for i, clause := range clauses {
		clauses[i] = clause[:cap(clause)]
	}
	return clauses
}

// R1: what is handed in stays as it was, with the room behind it, and is not kept.
func TestMemory(t *testing.T) {
	r := rand.New(rand.NewSource(149))
	for range 5000 {
		clauses, lemmas := grown(r, 1+r.Intn(4))
		is := shownByWords(clauses, lemmas)
		asked, room := roomy(clauses)
		learned, more := roomy(lemmas)
		wasRoom, wasMore := deep(stretched(room)), deep(stretched(more))
		want(t, asked, learned, is)
		if !sameClauses(stretched(room), wasRoom) || !sameClauses(stretched(more), wasMore) {
			t.Fatalf("%s: what is behind changed", short(clauses, lemmas))
		}
		for _, row := range slices.Concat(asked, learned) {
			for k := range row {
				row[k] = 1
			}
		}
		clear(room)
		clear(more)
		want(t, clauses, lemmas, is)
	}
}

// R1: one list may be handed in as both, and clauses may share their memory.
func TestMemoryThatIsShared(t *testing.T) {
	both := l(c(1), c(-1), c())
	want(t, both, both, true)
	want(t, both[:2], both, true)
	want(t, both[:2], both[2:], true)
	want(t, both[:1], both[1:], false)
	want(t, both[:0], both, false)
	literals := c(1, 2, -1)
	want(t, l(literals[:1], literals[2:]), l(literals[:2], literals[3:]), true)
	want(t, l(literals[:2], literals[1:]), l(literals[:0]), false)
	want(t, l(literals[:2], literals[1:]), l(literals[1:2], literals[:0]), false)
	want(t, l(literals[:2], literals[1:], c(-2)), l(literals[1:2], literals[:0]), true)
	want(t, l(literals[:1], literals[1:], c(-2)), l(literals[1:2], literals[:0]), true)
}

// R4: the same answers each time, whatever is asked between, also by several at once.
func TestSteady(t *testing.T) {
	r := rand.New(rand.NewSource(151))
	for range 300 {
		clauses, lemmas := grown(r, 4)
		is := Check(clauses, lemmas)
		for range 3 {
			Check(grown(r, 4))
			want(t, clauses, lemmas, is)
		}
		var asking sync.WaitGroup
		for range 4 {
			asking.Add(1)
			go func() {
				defer asking.Done()
				if Check(clauses, lemmas) != is {
					t.Errorf("%s: not %v each time", short(clauses, lemmas), is)
				}
			}()
		}
		asking.Wait()
	}
}
