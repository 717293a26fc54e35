package sat

import (
	"fmt"
	"math"
	"math/rand"
	"slices"
	"sync"
	"testing"

	"ashlar/api"
	"ashlar/prop"
)

// c is a clause, l a list of them.
func c(literals ...int) []int    { return literals }
func l(clauses ...[]int) [][]int { return clauses }

// deep is clauses in memory of their own.
func deep(clauses [][]int) [][]int {
	clauses = slices.Clone(clauses)
	for i := range clauses {
		clauses[i] = slices.Clone(clauses[i])
	}
	return clauses
}

// sameClauses tells whether two lists have the same clauses, in this order.
func sameClauses(a, b [][]int) bool {
	return slices.EqualFunc(a, b, slices.Equal[[]int])
}

// short is a question as a text, as far as it can be looked at.
func short(clauses [][]int, vars, fuel int) string {
	return fmt.Sprintf("Solve(%.300s, %d, %d)", fmt.Sprint(clauses), vars, fuel)
}

// result is one answer with all that is told beside it.
type result struct {
	answer int
	model  []bool
	lemmas [][]int
}

// same tells whether two answers are, item by item.
func (r result) same(other result) bool {
	return r.answer == other.answer && slices.Equal(r.model, other.model) && sameClauses(r.lemmas, other.lemmas)
}

// solve asks, and looks whether all that is told is as it must be, and what was handed in as it was.
func solve(t *testing.T, clauses [][]int, vars, fuel int) result {
	t.Helper()
	was := deep(clauses)
	answer, model, lemmas := Solve(clauses, vars, fuel)
	got := result{answer, model, lemmas}
	if !sameClauses(clauses, was) {
		t.Errorf("%s: what was handed in changed", short(was, vars, fuel))
	}
	if wrong := got.wrong(was, vars, fuel); wrong != "" {
		t.Errorf("%s: %d, %.300s: %s", short(was, vars, fuel), answer, fmt.Sprint(model, lemmas), wrong)
	}
	return got
}

// want asks for that answer.
func want(t *testing.T, clauses [][]int, vars, fuel, answer int) result {
	t.Helper()
	got := solve(t, clauses, vars, fuel)
	if got.answer != answer {
		t.Errorf("%s: %d, not %d", short(clauses, vars, fuel), got.answer, answer)
	}
	return got
}

// wrong tells what is wrong with an answer, whatever is asked; nothing if nothing is.
func (r result) wrong(clauses [][]int, vars, fuel int) string {
	switch {
	case r.answer != api.Yes && len(r.model) > 0:
		return "a model"
	case r.answer != api.No && len(r.lemmas) > 0:
		return "lemmas"
	case r.answer == api.Yes && (len(r.model) != vars+1 || r.model[0]):
		return "a model of other places"
	case r.answer == api.Yes && !models(clauses, r.model):
		return "no model"
	case r.answer == api.No && learned(r.lemmas) > max(fuel, 0):
		return "more lemmas than fuel"
	case r.answer == api.No && !fresh(clauses, r.lemmas):
		return "a lemma that stands there already"
	case r.answer == api.No && !shown(clauses, r.lemmas, vars):
		return "nothing is shown"
	case r.answer < api.Unknown || r.answer > api.No:
		return "no answer"
	}
	return ""
}

// models tells whether all clauses are true.
func models(clauses [][]int, model []bool) bool {
	a := make([]int8, len(model))
	for v, is := range model {
		a[v] = -1
		if is {
			a[v] = 1
		}
	}
	return prop.Eval(clauses, a) == 1
}

// learned is how many lemmas have literals.
func learned(lemmas [][]int) int {
	n := 0
	for _, lemma := range lemmas {
		n += min(len(lemma), 1)
	}
	return n
}

// fresh tells whether no lemma with literals is like a clause, or a lemma ahead of it,
// but for the order of its literals, and how often each stands in it.
func fresh(clauses, lemmas [][]int) bool {
	there := map[string]int{}
	key := func(clause []int) string {
		clause = slices.Clone(clause)
		slices.Sort(clause)
		return fmt.Sprint(slices.Compact(clause))
	}
	for _, clause := range clauses {
		there[key(clause)]++
	}
	for _, lemma := range lemmas {
		if len(lemma) > 0 && there[key(lemma)] > 0 {
			return false
		}
		there[key(lemma)]++
	}
	return true
}

// follows tells whether a lemma does from clauses.
func follows(clauses [][]int, lemma []int, vars int) bool {
	a := make([]int8, vars+1)
	for _, literal := range lemma {
		if slices.Contains(lemma, -literal) {
			return true
		}
		a[max(literal, -literal)] = -1
		if literal < 0 {
			a[-literal] = 1
		}
	}
	_, conflict := prop.Unit(clauses, a)
	return conflict
}

// shown tells whether lemmas show that no assignment makes all clauses true.
func shown(clauses, lemmas [][]int, vars int) bool {
	all := slices.Clone(clauses)
	for _, lemma := range lemmas {
		for _, literal := range lemma {
			if literal == 0 || literal < -vars || literal > vars {
				return false
			}
		}
		if !follows(all, lemma, vars) {
			return false
		}
		all = append(all, lemma)
	}
	return len(lemmas) > 0 && len(lemmas[len(lemmas)-1]) == 0
}

// byTrying is Yes or No, by each assignment, one by one.
func byTrying(clauses [][]int, vars int) int {
	model := make([]bool, vars+1)
	for n := range 1 << vars {
		for v := range vars {
			model[v+1] = n>>v&1 > 0
		}
		if models(clauses, model) {
			return api.Yes
		}
	}
	return api.No
}

// needed asks with more and more fuel, from below 0 on, and is how much was needed: with less of it nothing is told,
// with more always the same, and it is never more than 3 to the power of how many variables there are.
func needed(t *testing.T, clauses [][]int, vars, answer int) int {
	t.Helper()
	most := 1
	for range vars {
		most *= 3
	}
	last := want(t, clauses, vars, most, answer)
	enough := most
	for fuel := -2; fuel <= most; fuel++ {
		got := solve(t, clauses, vars, fuel)
		if got.answer == api.Unknown {
			continue
		}
		enough = max(fuel, 0)
		if fuel == -1 || fuel == 0 {
			t.Errorf("%s: told, but not with less, which is none, too", short(clauses, vars, fuel))
		}
		break
	}
	for _, fuel := range []int{enough, enough + 1, enough + 2, enough + 7, 1000, most + 1, 1 << 32, math.MaxInt} {
		if got := solve(t, clauses, vars, fuel); fuel >= enough && !got.same(last) {
			t.Errorf("%s: %v with more fuel, not %v", short(clauses, vars, fuel), got, last)
		}
	}
	return enough
}

// randomClauses is clauses of variables to n, of from some literals on, now and then one less,
// with literals more than once and both ways, too.
func randomClauses(r *rand.Rand, n, clauses, shortest, longest int) [][]int {
	list := make([][]int, clauses)
	for i := range list {
		for range r.Intn(longest-shortest+1) + shortest - 1 + min(1, r.Intn(20)) {
			list[i] = append(list[i], (r.Intn(n)+1)*(1-2*r.Intn(2)))
		}
	}
	return list
}

// shuffled is the same clauses in another order, with literals in another order, some of them twice.
func shuffled(r *rand.Rand, clauses [][]int) [][]int {
	clauses = deep(clauses)
	for i, clause := range clauses {
		if len(clause) > 0 && r.Intn(2) == 0 {
			clause = append(clause, clause[r.Intn(len(clause))])
		}
		r.Shuffle(len(clause), func(a, b int) { clause[a], clause[b] = clause[b], clause[a] })
		clauses[i] = clause
	}
	r.Shuffle(len(clauses), func(a, b int) { clauses[a], clauses[b] = clauses[b], clauses[a] })
	return clauses
}

// allOf is each clause that has all variables to n, once.
func allOf(n int) [][]int {
	clauses := l(nil)
	for v := 1; v <= n; v++ {
		for _, clause := range clauses {
			clauses = append(clauses, append(slices.Clone(clause), -v))
		}
		for i := range len(clauses) / 2 {
			clauses[i] = append(slices.Clone(clauses[i]), v)
		}
	}
	return clauses
}

// holes asks for n + 1 things in n holes, each in one of its own.
func holes(n int) [][]int {
	var clauses [][]int
	for thing := range n + 1 {
		var in []int
		for hole := range n {
			in = append(in, thing*n+hole+1)
			for other := range thing {
				clauses = append(clauses, c(-(thing*n+hole+1), -(other*n+hole+1)))
			}
		}
		clauses = append(clauses, in)
	}
	return clauses
}

// queens asks for one in each row of a board, no two in one line.
func queens(n int) [][]int {
	var clauses [][]int
	at := func(row, column int) int { return row*n + column + 1 }
	for row := range n {
		var in []int
		for column := range n {
			in = append(in, at(row, column))
			for above := range row {
				for _, d := range []int{column, column - row + above, column + row - above} {
					if d >= 0 && d < n {
						clauses = append(clauses, c(-at(row, column), -at(above, d)))
					}
				}
			}
		}
		clauses = append(clauses, in)
	}
	return clauses
}

// I1: the chapter's example.
func TestSolveExample(t *testing.T) {
	answer, model, lemmas := Solve(l(c(1, 2), c(-1)), 2, 0)
	if answer != api.Yes || !slices.Equal(model, []bool{false, false, true}) || len(lemmas) != 0 {
		t.Error(answer, model, lemmas)
	}
}

// I1: no clauses are always true, without any fuel.
func TestSolveNoClauses(t *testing.T) {
	for _, none := range [][][]int{nil, {}, make([][]int, 0, 3)} {
		for _, vars := range []int{0, 1, 2, 3, 100, 9999, 10000} {
			for _, fuel := range []int{math.MinInt, -1, 0, 1, 1000, math.MaxInt} {
				want(t, none, vars, fuel, api.Yes)
			}
		}
	}
}

// I1: a clause of no literals is never true, whatever stands beside it, without any fuel.
func TestSolveClauseOfNoLiterals(t *testing.T) {
	for _, empty := range [][]int{nil, {}, make([]int, 0, 2)} {
		for _, fuel := range []int{math.MinInt, -1, 0, 1, 1000} {
			for _, vars := range []int{0, 1, 2, 10000} {
				want(t, l(empty), vars, fuel, api.No)
				want(t, l(empty, empty), vars, fuel, api.No)
			}
			for _, clauses := range [][][]int{l(empty, c(1)), l(c(1), empty), l(c(1, 2), empty, c(-1)), l(c(1, -1), empty), l(c(1), c(-1), empty), append(allOf(2), empty)} {
				want(t, clauses, 2, fuel, api.No)
			}
		}
	}
}

// I1: of fewer variables than none, and of more than 10000, nothing is told.
func TestSolveVars(t *testing.T) {
	for _, vars := range []int{-1, -2, -10000, math.MinInt, math.MinInt + 1, 10001, 10002, 1 << 31, 1 << 32, math.MaxInt - 1, math.MaxInt} {
		for _, clauses := range [][][]int{nil, l(nil), l(c(1)), l(c(-1)), l(c(1), c(-1)), l(c(1, 2), c(-1)), l(c(0)), l(c(10001))} {
			for _, fuel := range []int{-1, 0, 1000} {
				want(t, clauses, vars, fuel, api.Unknown)
			}
		}
	}
	want(t, nil, 10000, 0, api.Yes)
	want(t, l(c(10000)), 10000, 0, api.Yes)
	want(t, l(c(-10000)), 10000, 0, api.Yes)
	want(t, l(c(10000, 1), c(-10000), c(-1)), 10000, 0, api.No)
	want(t, l(c(10000)), 9999, 0, api.Unknown)
	want(t, l(c(-10000)), 9999, 0, api.Unknown)
	want(t, l(nil), 0, 0, api.No)
	want(t, l(c(1)), 0, 0, api.Unknown)
}

// I1: of a literal that is 0, or of a variable above vars, nothing is told, whatever stands beside it.
func TestSolveWrongLiterals(t *testing.T) {
	for _, vars := range []int{0, 1, 2, 3, 10000} {
		for _, literal := range []int{0, vars + 1, -vars - 1, vars + 2, 10001, -10001, 1 << 32, 1<<32 + 1, -1<<32 - 1, 1 << 62, math.MaxInt, -math.MaxInt, math.MinInt, math.MinInt + 1, math.MinInt + 2} {
			for _, fuel := range []int{-1, 0, 1000} {
				want(t, l(c(literal)), vars, fuel, api.Unknown)
				want(t, l(nil, c(literal)), vars, fuel, api.Unknown)
				want(t, l(c(literal), nil), vars, fuel, api.Unknown)
				if vars < 2 {
					continue
				}
				for _, clauses := range [][][]int{l(c(1), c(-1), c(literal)), l(c(literal, 1)), l(c(1, literal)), l(c(1, -1, literal)), l(c(1), c(1, 2, literal)), l(c(1, 2), c(-1), c(literal, -literal)), l(c(1), c(2, literal, 1), c(-1))} {
					want(t, clauses, vars, fuel, api.Unknown)
				}
			}
		}
	}
}

// I1: where Unit of the clauses, all variables open, has a conflict, it is No without any fuel.
func TestSolveConflictAtOnce(t *testing.T) {
	for _, clauses := range [][][]int{
		l(nil), l(c(1), c(-1)), l(c(-1), c(1)), l(c(1, 1), c(-1, -1, -1)), l(c(1), c(-1, 2), c(-2)), l(c(-2), c(-1, 2), c(1)), l(c(-1, -2), c(1), c(2)),
		l(c(-1, 2), c(-2, 3), c(-3, -1), c(1)), l(c(1, 2, 3), c(-1), c(-2), c(-3)), l(c(-3, -2, -1), c(3), c(1), c(2)), l(c(1, -1), c(3), c(-3)), l(c(1), c(-1, 2), c(-1, 3), c(-2, -3)),
	} {
		for _, fuel := range []int{math.MinInt, -1, 0, 1, 1000} {
			want(t, clauses, 3, fuel, api.No)
		}
	}
	r := rand.New(rand.NewSource(83))
	met := 0
	for range 20000 {
		n := r.Intn(6) + 1
		clauses := randomClauses(r, n, r.Intn(12), 1, 4)
		if _, conflict := prop.Unit(clauses, make([]int8, n+1)); conflict {
			met++
			want(t, clauses, n, -r.Intn(2), api.No)
		}
	}
	if met < 1000 {
		t.Errorf("only %d conflicts", met)
	}
}

// I1: what follows at once takes no fuel.
func TestSolveWhatFollowsAtOnce(t *testing.T) {
	for _, clauses := range [][][]int{l(c(1)), l(c(-1)), l(c(1, 2), c(-1)), l(c(-1), c(1, 2)), l(c(1, 1), c(-1, -1, 2)), l(c(-2, 3), c(-1, 2), c(1)), l(c(1), c(-1, 2), c(-1, -2, 3)), l(c(-3), c(3, -2, -2), c(2, -1))} {
		for _, fuel := range []int{math.MinInt, -1, 0, 1} {
			want(t, clauses, 3, fuel, api.Yes)
		}
	}
	r := rand.New(rand.NewSource(89))
	met := 0
	for range 20000 {
		n := r.Intn(6) + 1
		clauses := randomClauses(r, n, r.Intn(12), 1, 4)
		if a, conflict := prop.Unit(clauses, make([]int8, n+1)); !conflict && prop.Eval(clauses, a) == 1 {
			met++
			want(t, clauses, n, -r.Intn(2), api.Yes)
		}
	}
	if met < 1000 {
		t.Errorf("only %d answers", met)
	}
}

// I1: what is found without a conflict takes no fuel: where no choice can be wrong, none is learned from.
func TestSolveWithoutConflict(t *testing.T) {
	for _, clauses := range [][][]int{l(c(1, 2)), l(c(-1, -2)), l(c(1, -2), c(3, 4)), l(c(1, -1)), l(c(2, -2, 3), c(-3, 1, 3)), l(c(1, 2, 3, 4)), l(c(-1, -2, -3), c(4, 5, 6), c(7, -8)), l(c(1, 2), c(2, 1), c(1, 2, 2))} {
		for _, fuel := range []int{math.MinInt, -1, 0} {
			want(t, clauses, 9, fuel, api.Yes)
		}
	}
	r := rand.New(rand.NewSource(97))
	for range 200 {
		var clauses [][]int
		for v := 1; v < 200; {
			var clause []int
			for range r.Intn(5) + 1 {
				clause = append(clause, v*(1-2*r.Intn(2)))
				v++
			}
			clauses = append(clauses, clause)
		}
		want(t, shuffled(r, clauses), 210, 0, api.Yes)
	}
}

// I1: clauses of which no assignment makes all true, and from which nothing follows at once, take fuel;
// with less nothing is told.
func TestSolveFuel(t *testing.T) {
	for _, fuel := range []int{math.MinInt, -5, -1, 0} {
		want(t, allOf(2), 2, fuel, api.Unknown)
		want(t, allOf(3), 3, fuel, api.Unknown)
		want(t, holes(3), 12, fuel, api.Unknown)
	}
	want(t, allOf(2), 2, 9, api.No)
	want(t, allOf(3), 3, 27, api.No)
	want(t, holes(2), 6, 729, api.No)
	for n := 2; n < 6; n++ {
		if needed(t, allOf(n), n, api.No) < 1 {
			t.Errorf("all clauses of %d variables took no fuel", n)
		}
	}
	// One lemma less than are told is too little.
	for _, clauses := range [][][]int{allOf(4), holes(4), queens(3)} {
		last := want(t, clauses, 20, 100000, api.No)
		want(t, clauses, 20, len(last.lemmas)-2, api.Unknown)
		if !want(t, clauses, 20, len(last.lemmas)-1, api.No).same(last) {
			t.Errorf("%v: other lemmas with less fuel", clauses)
		}
	}
}

// I1: all sets of clauses of two variables, those that are always true among them, in several orders.
func TestSolveAllOfTwoVariables(t *testing.T) {
	r := rand.New(rand.NewSource(101))
	every := l(nil, c(1), c(-1), c(2), c(-2), c(1, 2), c(1, -2), c(-1, 2), c(-1, -2), c(1, -1), c(2, -2, 1))
	for set := range 1 << len(every) {
		var clauses [][]int
		for i, clause := range every {
			if set>>i&1 > 0 {
				clauses = append(clauses, clause)
			}
		}
		answer := byTrying(clauses, 2)
		needed(t, clauses, 2, answer)
		needed(t, shuffled(r, append(clauses, clauses...)), 2, answer)
	}
}

// I1: random clauses against each assignment tried, with all fuel from below 0 to 3 to the power of the variables.
func TestSolveByTrying(t *testing.T) {
	r := rand.New(rand.NewSource(103))
	met := map[int]int{}
	for range 4000 {
		n := r.Intn(5) + 1
		clauses := randomClauses(r, n, r.Intn(8*n+3), r.Intn(3)+1, 4)
		answer := byTrying(clauses, n)
		met[answer]++
		if needed(t, clauses, n, answer) > 0 {
			met[10+answer]++
		}
	}
	for _, kind := range []int{api.Yes, api.No, 10 + api.Yes, 10 + api.No} {
		if met[kind] < 50 {
			t.Errorf("only %d of kind %d", met[kind], kind)
		}
	}
}

// I1: more variables, of three literals a clause, near where about half of them may be.
func TestSolveThreeLiterals(t *testing.T) {
	r := rand.New(rand.NewSource(107))
	for range 300 {
		n := r.Intn(8) + 5
		var clauses [][]int
		for range n * (r.Intn(3) + 4) {
			v := r.Perm(n)
			clauses = append(clauses, c((v[0]+1)*(1-2*r.Intn(2)), (v[1]+1)*(1-2*r.Intn(2)), (v[2]+1)*(1-2*r.Intn(2))))
		}
		answer := byTrying(clauses, n)
		want(t, clauses, n, 531441, answer)
		want(t, shuffled(r, clauses), n, 531441, answer)
		want(t, append(clauses, shuffled(r, clauses)...), n+r.Intn(3), 531441, answer)
	}
}

// I1, what follows: each lemma is true whenever all clauses are, and so is each that was learned ahead of an answer.
func TestLemmasHold(t *testing.T) {
	r := rand.New(rand.NewSource(109))
	met := 0
	for range 3000 {
		n := r.Intn(6) + 4
		clauses := randomClauses(r, n, r.Intn(6*n), 2, 4)
		s := start(n)
		if !s.load(clauses) || s.look(math.MaxInt) == api.Unknown {
			continue
		}
		met += len(s.lemmas)
		for i, lemma := range s.lemmas {
			if !follows(append(slices.Clone(clauses), s.lemmas[:i]...), lemma, n) || !fresh(clauses, s.lemmas) {
				t.Errorf("%v: %v", clauses, s.lemmas)
			}
			refuted := slices.Clone(clauses)
			for _, literal := range lemma {
				refuted = append(refuted, c(-literal))
			}
			if byTrying(refuted, n) != api.No {
				t.Errorf("%v: %v need not be true", clauses, lemma)
			}
		}
	}
	if met < 500 {
		t.Errorf("only %d lemmas", met)
	}
}

// I1: known ones.
func TestSolveKnownOnes(t *testing.T) {
	for n := range 7 {
		want(t, holes(n), n*(n+1), 100000, api.No)
	}
	for n, answer := range []int{api.Yes, api.Yes, api.No, api.No, api.Yes, api.Yes, api.Yes, api.Yes, api.Yes} {
		want(t, queens(n), n*n, 100000, answer)
	}
	for n := 1; n < 9; n++ {
		want(t, allOf(n), n, 6561, api.No)
		for i := range allOf(n) {
			without := slices.Delete(allOf(n), i, i+1)
			got := want(t, without, n, 6561, api.Yes)
			for _, literal := range allOf(n)[i] {
				if got.model[max(literal, -literal)] != (literal < 0) {
					t.Errorf("%d without %d: %v", n, i, got.model)
				}
			}
		}
	}
}

// I1: as many variables as there may be.
func TestSolveManyVariables(t *testing.T) {
	chain := func(step int) [][]int {
		var clauses [][]int
		for v := 1; v < maxVars; v++ {
			clauses = append(clauses, c(-v*step, (v+1)*step))
		}
		return clauses
	}
	for _, step := range []int{1, -1} {
		up, down := chain(step), chain(step)
		slices.Reverse(down)
		for _, clauses := range [][][]int{up, down} {
			want(t, clauses, maxVars, 0, api.Yes)
			got := want(t, append(deep(clauses), c(step)), maxVars, 0, api.Yes)
			if slices.Contains(got.model[1:], step < 0) {
				t.Errorf("step %d: not all follow", step)
			}
			ends := append(deep(clauses), c(step), c(-maxVars*step))
			if answer, model, lemmas := Solve(ends, maxVars, 0); answer != api.No || len(model) > 0 || len(lemmas) != 1 || len(lemmas[0]) > 0 {
				t.Errorf("step %d: %d, %.100v", step, answer, lemmas)
			}
		}
	}
	r := rand.New(rand.NewSource(113))
	var clauses [][]int
	for range 3 * maxVars {
		clauses = append(clauses, c((r.Intn(maxVars)+1)*(1-2*r.Intn(2)), (r.Intn(maxVars)+1)*(1-2*r.Intn(2)), (r.Intn(maxVars)+1)*(1-2*r.Intn(2))))
	}
	want(t, clauses, maxVars, 100000, api.Yes)
}

// I1: long clauses, of one literal over and over, and of all of them.
func TestSolveLongClauses(t *testing.T) {
	long := slices.Repeat(c(1), 300000)
	want(t, l(long), 1, 0, api.Yes)
	want(t, l(long, slices.Repeat(c(-1), 300000)), 1, 0, api.No)
	want(t, l(slices.Repeat(c(1, -1), 300000)), 1, 0, api.Yes)
	want(t, l(slices.Repeat(c(1, -2), 300000), c(-1)), 2, 0, api.Yes)
	var all, none [][]int
	all = append(all, nil)
	for v := 1; v <= maxVars; v++ {
		all[0] = append(all[0], v)
		none = append(none, c(-v))
	}
	want(t, all, maxVars, 0, api.Yes)
	if answer, _, lemmas := Solve(append(none, all[0]), maxVars, 0); answer != api.No || len(lemmas) != 1 {
		t.Errorf("%d, %.100v", answer, lemmas)
	}
	got := want(t, append(none[1:], all[0]), maxVars, 0, api.Yes)
	if !got.model[1] || slices.Contains(got.model[2:], true) {
		t.Error("not the one that is left")
	}
}

// I1: weights that became large are made smaller, and all is as it must be.
func TestSolveLargeWeights(t *testing.T) {
	for _, by := range []float64{1e99, 1e100, 2e100, math.MaxFloat64} {
		s := start(30)
		if !s.load(holes(5)) {
			t.Fatal("not loaded")
		}
		s.by = by
		got := result{answer: s.look(math.MaxInt), lemmas: append(s.lemmas, nil)}
		if wrong := got.wrong(holes(5), 30, math.MaxInt); got.answer != api.No || wrong != "" {
			t.Errorf("%v: %d, %s", by, got.answer, wrong)
		}
		for v, weight := range s.weights {
			if weight < 0 || weight > 1e102 {
				t.Errorf("%v: %d weighs %v", by, v, weight)
			}
			if chance := s.chances[v]; !math.IsNaN(chance) && chance != weight {
				t.Errorf("%v: %d weighs %v, but has %v", by, v, weight, chance)
			}
		}
		if s.by > 1e100 {
			t.Errorf("%v: by %v", by, s.by)
		}
	}
}

// I1: what cannot be chosen any more weighs no number, whatever else its weight.
func TestChancesAreOfOpenOnes(t *testing.T) {
	s := start(9)
	s.load(l(c(1), c(2, 3), c(-4, 5, 6), c(7, -7), c(-1, 9)))
	s.follow()
	for i := 0; ; i++ {
		for v, chance := range s.chances {
			may := v > 0 && s.is[v] == 0 && v != 7 && v != 8
			if math.IsNaN(chance) == may {
				t.Errorf("%d choices: %d has %v", i, v, chance)
			}
		}
		if !s.choose() {
			break
		}
		if s.follow() != nil {
			t.Fatal("a conflict")
		}
	}
	s.back(0)
	if math.IsNaN(s.chances[2]) || !math.IsNaN(s.chances[1]) || !math.IsNaN(s.chances[9]) || !math.IsNaN(s.chances[0]) {
		t.Errorf("%v after all choices are taken back", s.chances)
	}
}

// I1: the variables from which something is learned weigh more, later ones the most.
func TestLearnedFromWeighMore(t *testing.T) {
	s := start(6)
	s.load(allOf(3))
	for i := range 2 {
		weights, by := slices.Clone(s.weights), s.by
		broken := s.follow()
		for ; broken == nil; broken = s.follow() {
			s.choose()
		}
		s.learn(broken)
		for _, literal := range s.lemmas[i] {
			v := max(literal, -literal)
			if s.weights[v] != weights[v]+by {
				t.Errorf("%d: %d weighs %v, not %v more than %v", i, v, s.weights[v], by, weights[v])
			}
		}
		if s.by <= by || s.weights[6] != 0 {
			t.Errorf("%d: by %v, then %v; %v", i, by, s.by, s.weights)
		}
	}
}

// R1: what was handed in is not kept: it may be written over, and no answer changes.
func TestSolveKeepsNothing(t *testing.T) {
	for _, clauses := range [][][]int{allOf(3), allOf(3)[1:], l(c(1)), l(nil), l(c(1, 2), c(-1)), l(c(1), c(-1)), holes(3), queens(4)} {
		handed := deep(clauses)
		answer, model, lemmas := Solve(handed, 16, 1000)
		got := result{answer, slices.Clone(model), deep(lemmas)}
		for _, clause := range handed {
			for i := range clause[:cap(clause)] {
				clause[:cap(clause)][i] = 77
			}
		}
		clear(handed[:cap(handed)])
		if !got.same(result{answer, model, lemmas}) {
			t.Errorf("%v: the answer changed", clauses)
		}
		if again := solve(t, clauses, 16, 1000); !again.same(got) {
			t.Errorf("%v: %v, then %v", clauses, got, again)
		}
	}
}

// spoil writes over all that was answered, as far as its memory goes.
func (r result) spoil() {
	for i := range r.model[:cap(r.model)] {
		r.model[:cap(r.model)][i] = true
	}
	lemmas := r.lemmas[:cap(r.lemmas)]
	for k, lemma := range lemmas {
		for i := range lemma[:cap(lemma)] {
			lemma[:cap(lemma)][i] = 1000 + k
		}
	}
}

// R1: what was answered is the caller's: writing over it changes neither what was handed in nor a later answer,
// and no two lemmas share memory.
func TestSolveAnswersAreNew(t *testing.T) {
	for _, clauses := range [][][]int{allOf(3), allOf(3)[1:], l(c(1)), l(nil), l(nil, c(1)), l(c(1, 2), c(-1)), l(c(1), c(-1)), holes(4), queens(3), queens(4)} {
		was := deep(clauses)
		first := solve(t, clauses, 20, 1000)
		kept := result{first.answer, slices.Clone(first.model), deep(first.lemmas)}
		other := solve(t, clauses, 20, 1000)
		first.spoil()
		for k, lemma := range first.lemmas {
			for _, literal := range lemma {
				if literal != 1000+k {
					t.Errorf("%v: lemma %d shares memory", was, k)
				}
			}
		}
		clear(first.lemmas[:cap(first.lemmas)])
		if !other.same(kept) || !sameClauses(clauses, was) || !solve(t, clauses, 20, 1000).same(kept) {
			t.Errorf("%v: what was written over is elsewhere, too", was)
		}
	}
}

// R4: of the same the same, at any time, whatever else is asked between, or beside.
func TestSolveSameAgain(t *testing.T) {
	r := rand.New(rand.NewSource(127))
	for range 60 {
		n := r.Intn(30) + 5
		clauses := randomClauses(r, n, 4*n, 2, 5)
		first := solve(t, clauses, n, 2000)
		solve(t, randomClauses(r, n, 3*n, 2, 4), n, 100)
		var group sync.WaitGroup
		var beside [4]result
		for i := range beside {
			group.Go(func() {
				answer, model, lemmas := Solve(deep(clauses), n, 2000)
				beside[i] = result{answer, model, lemmas}
			})
		}
		group.Wait()
		for _, again := range beside {
			if !again.same(first) {
				t.Errorf("%s: %v, then %v", short(clauses, n, 2000), first, again)
			}
		}
	}
}
