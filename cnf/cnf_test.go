package cnf

import (
	"fmt"
	"math"
	"math/rand"
	"slices"
	"strconv"
	"testing"

	"ashlar/api"
	"ashlar/eval"
	"ashlar/term"
)

// made makes a term of parts, named one of a name, number a Num, times a Mul.
func made(op int, parts ...api.Term) api.Term { return api.Term{Op: op, A: parts} }
func named(op int, name string) api.Term      { return api.Term{Op: op, Name: name} }
func number(n int64) api.Term                 { return api.Term{Op: api.Num, N: n} }
func times(n int64, part api.Term) api.Term   { return api.Term{Op: api.Mul, N: n, A: []api.Term{part}} }

// integer, set, node and truth make terms that are names.
func integer(name string) api.Term { return named(api.IntVar, name) }
func set(name string) api.Term     { return named(api.SetVar, name) }
func node(name string) api.Term    { return named(api.NodeVar, name) }
func truth(name string) api.Term   { return named(api.BoolVar, name) }

// not, and, or, imp, le make bools of others, yes and no are True and False.
func not(t api.Term) api.Term        { return made(api.Not, t) }
func and(parts ...api.Term) api.Term { return made(api.And, parts...) }
func or(parts ...api.Term) api.Term  { return made(api.Or, parts...) }
func imp(u, v api.Term) api.Term     { return made(api.Imp, u, v) }
func le(a, b api.Term) api.Term      { return made(api.Le, a, b) }
func yes() api.Term                  { return made(api.True) }
func no() api.Term                   { return made(api.False) }

// chain is x below so many Nots, nest x below so many terms of this operation alone, many x so many times.
func chain(levels int, x api.Term) api.Term { return nest(api.Not, levels, x) }
func nest(op, levels int, x api.Term) api.Term {
	for range levels {
		x = made(op, x)
	}
	return x
}
func many(count int, x api.Term) []api.Term { return slices.Repeat([]api.Term{x}, count) }

// loop is a term that is a part of itself.
func loop() api.Term {
	l := make([]api.Term, 2)
	l[0] = api.Term{Op: api.And, A: l}
	l[1] = l[0]
	return l[0]
}

// clone is t in memory of its own.
func clone(t api.Term) api.Term {
	t.A = slices.Clone(t.A)
	for i := range t.A {
		t.A[i] = clone(t.A[i])
	}
	return t
}

// spoil writes over all parts of a term, and behind them as far as there is room.
func spoil(t api.Term) {
	for i := range t.A {
		spoil(t.A[i])
	}
	room := t.A[:cap(t.A)]
	for i := range room {
		room[i] = api.Term{Op: 99, Name: "spoilt", N: -1}
	}
}

// short is a term as a text, if it is small enough to be looked at.
func short(t api.Term) string {
	if size := term.Size(t); size > 40 {
		return fmt.Sprint("a term of size ", size, " and depth ", term.Deep(t))
	}
	return fmt.Sprint(t)
}

// answer is all that Clauses answers.
type answer struct {
	clauses [][]int
	atoms   []api.Term
	vars    int
	err     api.Errno
}

func asked(t api.Term) (a answer) {
	a.clauses, a.atoms, a.vars, a.err = Clauses(t)
	return a
}

// is tells whether two answers are the same, in this order.
func (a answer) is(b answer) bool {
	return slices.EqualFunc(a.clauses, b.clauses, slices.Equal[[]int]) && slices.EqualFunc(a.atoms, b.atoms, term.Same) && a.vars == b.vars && a.err == b.err
}

// own is the answer in memory of its own.
func (a answer) own() answer {
	a.clauses, a.atoms = slices.Clone(a.clauses), slices.Clone(a.atoms)
	for i := range a.clauses {
		a.clauses[i] = slices.Clone(a.clauses[i])
	}
	for i := range a.atoms {
		a.atoms[i] = clone(a.atoms[i])
	}
	return a
}

// want asks for these clauses, atoms and variables.
func want(t *testing.T, x api.Term, vars int, atoms []api.Term, clauses ...[]int) {
	t.Helper()
	wanted := answer{clauses, atoms, vars, api.OK}
	if got := asked(x); !got.is(wanted) {
		t.Errorf("Clauses(%s): %.400v, not %.400v", short(x), fmt.Sprint(got), fmt.Sprint(wanted))
	}
}

// wantError asks for an error, and for nothing else.
func wantError(t *testing.T, what string, x api.Term, err api.Errno) {
	t.Helper()
	if got := asked(x); got.err != err || len(got.clauses) != 0 || len(got.atoms) != 0 || got.vars != 0 {
		t.Errorf("%s: error %d, %d clauses, %d atoms, %d variables, not %d and nothing", what, got.err, len(got.clauses), len(got.atoms), got.vars, err)
	}
}

// l is a list of terms, c a clause.
func l(terms ...api.Term) []api.Term { return terms }
func c(literals ...int) []int        { return literals }

// atomKinds is a term of each operation that makes an atom.
func atomKinds() []api.Term {
	x, y, a, b, n, m := integer("x"), integer("y"), set("a"), set("b"), node("n"), node("m")
	return l(truth("p"), le(x, y), made(api.Lt, x, y), made(api.Eq, x, y), made(api.In, n, a), made(api.Subset, a, b), made(api.SameSet, a, b), made(api.SameNode, n, m))
}

// G1: the chapter's example.
func TestClausesExample(t *testing.T) {
	a := truth("a")
	want(t, and(a, not(a)), 2, l(a), c(-2, 1), c(-2, -1), c(2, -1, 1), c(2))
}

// G1: a term that is one atom, of each operation, also below Nots.
func TestClausesOfOneAtom(t *testing.T) {
	for _, x := range atomKinds() {
		for levels := range 9 {
			literal := 1 - levels%2*2
			want(t, chain(levels, x), 1, l(x), c(literal))
			want(t, and(chain(levels, x)), 2, l(x), c(-2, literal), c(2, -literal), c(2))
			want(t, or(chain(levels, x)), 2, l(x), c(2, -literal), c(-2, literal), c(2))
			want(t, not(imp(chain(levels, x), not(x))), 2, l(x), c(2, literal), c(2, 1), c(-2, -literal, -1), c(-2))
		}
	}
	p := truth("p")
	for levels := range 100 {
		want(t, chain(levels, p), 1, l(p), c(1-levels%2*2))
	}
}

// G1: And, Or, Imp, True and False, each alone, and Not of it.
func TestClausesOfEachOperation(t *testing.T) {
	p, q, r := truth("p"), truth("q"), truth("r")
	for _, turn := range []int{1, -1} {
		top := func(x api.Term) api.Term {
			if turn < 0 {
				return not(x)
			}
			return x
		}
		want(t, top(yes()), 1, nil, c(1), c(turn))
		want(t, top(no()), 1, nil, c(-1), c(turn))
		want(t, top(and()), 1, nil, c(1), c(turn))
		want(t, top(or()), 1, nil, c(-1), c(turn))
		want(t, top(and(p)), 2, l(p), c(-2, 1), c(2, -1), c(2*turn))
		want(t, top(or(p)), 2, l(p), c(2, -1), c(-2, 1), c(2*turn))
		want(t, top(and(p, q)), 3, l(p, q), c(-3, 1), c(-3, 2), c(3, -1, -2), c(3*turn))
		want(t, top(or(p, q)), 3, l(p, q), c(3, -1), c(3, -2), c(-3, 1, 2), c(3*turn))
		want(t, top(imp(p, q)), 3, l(p, q), c(3, 1), c(3, -2), c(-3, -1, 2), c(3*turn))
		want(t, top(and(p, not(q), r)), 4, l(p, q, r), c(-4, 1), c(-4, -2), c(-4, 3), c(4, -1, 2, -3), c(4*turn))
		want(t, top(or(not(p), q, not(r))), 4, l(p, q, r), c(4, 1), c(4, -2), c(4, 3), c(-4, -1, 2, -3), c(4*turn))
		want(t, top(imp(not(p), q)), 3, l(p, q), c(3, -1), c(3, -2), c(-3, 1, 2), c(3*turn))
		want(t, top(imp(p, not(q))), 3, l(p, q), c(3, 1), c(3, 2), c(-3, -1, -2), c(3*turn))
		want(t, top(imp(p, p)), 2, l(p), c(2, 1), c(2, -1), c(-2, -1, 1), c(2*turn))
	}
	for _, empty := range [][]api.Term{nil, {}, make([]api.Term, 0, 5)} {
		want(t, api.Term{Op: api.And, A: empty}, 1, nil, c(1), c(1))
		want(t, api.Term{Op: api.Or, A: empty}, 1, nil, c(-1), c(1))
		want(t, api.Term{Op: api.True, A: empty}, 1, nil, c(1), c(1))
		want(t, api.Term{Op: api.False, A: empty}, 1, nil, c(-1), c(1))
	}
}

// G1: And and Or of many, all atoms unlike, or all the same, as far as a term may be large.
func TestClausesOfMany(t *testing.T) {
	for _, count := range []int{3, 10, 500, 1999} {
		var names []api.Term
		h, all, none := count+1, c(count+1), c(-count-1)
		var ands, ors [][]int
		for i := range count {
			names = append(names, truth("p"+strconv.Itoa(i)))
			all, none = append(all, -i-1), append(none, i+1)
			ands, ors = append(ands, c(-h, i+1)), append(ors, c(h, -i-1))
		}
		want(t, and(names...), h, names, append(ands, all, c(h))...)
		want(t, or(names...), h, names, append(ors, none, c(h))...)

		p := truth("p")
		want(t, and(many(count, p)...), 2, l(p), append(slices.Repeat([][]int{{-2, 1}}, count), append(c(2), slices.Repeat(c(-1), count)...), c(2))...)
		want(t, or(many(count, p)...), 2, l(p), append(slices.Repeat([][]int{{2, -1}}, count), append(c(-2), slices.Repeat(c(1), count)...), c(2))...)
	}
	var clauses [][]int
	all := c(2000)
	for i := range 1999 {
		clauses, all = append(clauses, c(i+1)), append(all, -i-1)
	}
	for i := range 1999 {
		clauses = append(clauses, c(-2000, i+1))
	}
	want(t, and(many(1999, yes())...), 2000, nil, append(clauses, all, c(2000))...)
}

// G1: True and False have one variable each, wherever they stand, and the same And, Or, Imp twice has two.
func TestClausesOfOthersTwice(t *testing.T) {
	p, q := truth("p"), truth("q")
	want(t, and(yes(), no(), yes()), 4, nil, c(1), c(-2), c(3), c(-4, 1), c(-4, 2), c(-4, 3), c(4, -1, -2, -3), c(4))
	want(t, imp(no(), no()), 3, nil, c(-1), c(-2), c(3, 1), c(3, -2), c(-3, -1, 2), c(3))
	want(t, or(yes(), p, not(yes())), 4, l(p), c(2), c(3), c(4, -2), c(4, -1), c(4, 3), c(-4, 2, 1, -3), c(4))
	want(t, or(and(p), and(p)), 4, l(p), c(-2, 1), c(2, -1), c(-3, 1), c(3, -1), c(4, -2), c(4, -3), c(-4, 2, 3), c(4))
	want(t, and(or(), or(), and()), 4, nil, c(-1), c(-2), c(3), c(-4, 1), c(-4, 2), c(-4, 3), c(4, -1, -2, -3), c(4))
	want(t, imp(imp(p, q), imp(p, q)), 5, l(p, q), c(3, 1), c(3, -2), c(-3, -1, 2), c(4, 1), c(4, -2), c(-4, -1, 2), c(5, 3), c(5, -4), c(-5, -3, 4), c(5))
}

// G1: atoms are ordered by where they are met first, other variables by where they end.
func TestClausesOrder(t *testing.T) {
	p, q, r, s := truth("p"), truth("q"), truth("r"), truth("s")
	want(t, and(r, p, q, p, r), 4, l(r, p, q), c(-4, 1), c(-4, 2), c(-4, 3), c(-4, 2), c(-4, 1), c(4, -1, -2, -3, -2, -1), c(4))
	want(t, and(or(s, not(yes())), imp(no(), and(p, s)), q), 9, l(s, p, q),
		c(4), c(5, -1), c(5, 4), c(-5, 1, -4),
		c(-6), c(-7, 2), c(-7, 1), c(7, -2, -1), c(8, 6), c(8, -7), c(-8, -6, 7),
		c(-9, 5), c(-9, 8), c(-9, 3), c(9, -5, -8, -3), c(9))
	want(t, not(imp(not(or(q, not(p))), not(not(and(not(r), q))))), 6, l(q, p, r),
		c(4, -1), c(4, 2), c(-4, 1, -2), c(-5, -3), c(-5, 1), c(5, 3, -1), c(6, -4), c(6, -5), c(-6, 4, 5), c(-6))
	// A part that is met late, deep inside, and again outside.
	want(t, or(and(or(and(s), r)), s, p), 7, l(s, r, p),
		c(-4, 1), c(4, -1), c(5, -4), c(5, -2), c(-5, 4, 2), c(-6, 5), c(6, -5), c(7, -6), c(7, -1), c(7, -3), c(-7, 6, 1, 3), c(7))
}

// G1: what is nearly the same is another atom, what is the same is one, in whatever memory, however far apart.
func TestClausesOfLikeAtoms(t *testing.T) {
	x, y, a, b, n := integer("x"), integer("y"), set("a"), set("b"), node("n")
	unlike := l(
		truth("p"), truth("P"), truth("p0"), truth("q"),
		le(x, y), le(y, x), le(x, x), made(api.Lt, x, y), made(api.Eq, x, y), made(api.Eq, y, x),
		le(x, number(1)), le(x, number(-1)), le(x, number(0)), le(x, times(1, number(1))), le(x, times(2, number(1))), le(x, times(1, number(2))), le(x, times(1, y)),
		le(made(api.Add, x, y), number(1)), le(made(api.Add, y, x), number(1)), le(made(api.Sub, x, y), number(1)), le(number(1), made(api.Add, x, y)),
		le(x, made(api.Card, a)), le(x, made(api.Card, b)), le(x, made(api.Card, made(api.Empty))), le(x, made(api.Card, made(api.All))), le(x, made(api.Card, made(api.One, n))),
		made(api.Subset, a, b), made(api.SameSet, a, b), made(api.SameSet, b, a), made(api.Subset, a, made(api.Union, a, b)), made(api.Subset, a, made(api.Inter, a, b)), made(api.Subset, a, made(api.Minus, a, b)),
		made(api.In, n, a), made(api.In, node("m"), a), made(api.In, n, b), made(api.SameNode, n, node("m")), made(api.SameNode, node("m"), n), made(api.SameNode, n, n),
	)
	for i, u := range unlike {
		for k, v := range unlike {
			v = clone(v)
			if i == k {
				want(t, or(u, v), 2, l(u), c(2, -1), c(2, -1), c(-2, 1, 1), c(2))
			} else {
				want(t, or(u, v, u), 3, l(u, v), c(3, -1), c(3, -2), c(3, -1), c(-3, 1, 2, 1), c(3))
			}
		}
	}
	row, h := c(-len(unlike)-1), len(unlike)+1
	var clauses [][]int
	for i := range 2 * len(unlike) {
		clauses, row = append(clauses, c(h, -(i%len(unlike)+1))), append(row, i%len(unlike)+1)
	}
	twice := slices.Concat(unlike, clone(or(unlike...)).A)
	want(t, or(twice...), h, unlike, append(clauses, row, c(h))...)
	empty := le(x, number(1))
	empty.A[0].A, empty.A[1].A = []api.Term{}, make([]api.Term, 0, 3)
	want(t, or(le(x, number(1)), empty), 2, l(empty), c(2, -1), c(2, -1), c(-2, 1, 1), c(2))
}

// G1: what stands inside an atom is no atom, and is not looked into, however deep it is.
func TestClausesLookNotIntoAtoms(t *testing.T) {
	deep := set("a")
	for range 40 {
		deep = made(api.Union, made(api.One, node("n")), made(api.Minus, deep, made(api.Empty)))
	}
	x := le(made(api.Card, deep.A[1]), made(api.Add, integer("x"), number(7)))
	want(t, x, 1, l(x), c(1))
	want(t, imp(x, not(x)), 2, l(x), c(2, 1), c(2, 1), c(-2, -1, -1), c(2))
	// x, n and a are names inside of atoms, and bools of these names are others.
	y := made(api.In, node("n"), set("a"))
	want(t, and(truth("x"), x, truth("n"), y, truth("a")), 6, l(truth("x"), x, truth("n"), y, truth("a")),
		c(-6, 1), c(-6, 2), c(-6, 3), c(-6, 4), c(-6, 5), c(6, -1, -2, -3, -4, -5), c(6))
}

// wrong is terms that are not right, full such that are too large or too deep, noBool right ones of other sorts.
func wrong() []api.Term {
	n := node("n")
	return l(api.Term{}, made(29), made(-1), truth(""), truth("9"), truth("abcdefghijklmnopq"), api.Term{Op: api.True, N: 1}, named(api.False, "p"), made(api.True, truth("p")), made(api.False, no()), made(api.Not), made(api.Not, truth("p"), truth("p")), and(truth("p"), number(1)), or(yes(), set("a")), api.Term{Op: api.And, N: 1}, named(api.Or, "p"), imp(yes(), integer("x")), imp(n, yes()), made(api.Imp, yes()), made(api.Imp), made(api.Imp, yes(), yes(), yes()), le(integer("x"), truth("x")), made(api.Lt, number(1)), made(api.Eq, set("a"), set("a")), made(api.In, set("a"), n), api.Term{Op: api.BoolVar, Name: "p", A: l(yes())}, named(api.Num, "x"), made(api.Card, number(1)), integer(""))
}
func full() []api.Term {
	p := truth("p")
	return l(chain(100, p), and(many(2000, p)...), chain(5000, p), loop(), or(many(3000, api.Term{})...), nest(api.Card, 200, p), made(api.Add, many(2000, number(1))...), nest(api.And, 100, yes()), nest(api.Or, 100, number(1)))
}
func noBool() []api.Term {
	a, n := set("a"), node("n")
	return l(number(1), integer("x"), made(api.Card, a), made(api.Add, number(1), number(2)), made(api.Sub, integer("x"), number(2)), times(2, integer("x")), a, made(api.Empty), made(api.All), made(api.One, n), made(api.Union, a, a), made(api.Inter, a, a), made(api.Minus, a, a), n)
}

// G1: the first error that applies, and nothing beside it.
func TestClausesErrors(t *testing.T) {
	for _, x := range wrong() {
		wantError(t, "not right: "+short(x), x, api.ErrSort)
		wantError(t, "not right, below Not: "+short(x), not(x), api.ErrSort)
		wantError(t, "not right, deep inside: "+short(x), not(and(yes(), or(truth("p"), imp(yes(), x)))), api.ErrSort)
	}
	for _, x := range full() {
		wantError(t, "full", x, api.ErrFull)
		wantError(t, "full, below Not", not(x), api.ErrFull)
		wantError(t, "full, and not right", made(99, x), api.ErrFull)
		wantError(t, "full, and no bool", made(api.Card, x), api.ErrFull)
	}
	for _, x := range noBool() {
		wantError(t, "no bool: "+short(x), x, api.ErrSort)
		wantError(t, "a part that is no bool: "+short(x), and(x), api.ErrSort)
		wantError(t, "a part that is no bool: "+short(x), imp(truth("p"), x), api.ErrSort)
	}
	deep := integer("x")
	for range 99 {
		deep = times(1, deep)
	}
	wantError(t, "an int at the limit of depth", deep, api.ErrSort)
	wantError(t, "an int that is too deep", times(1, deep), api.ErrFull)
}

// G1: terms at the limits of size and depth have clauses.
func TestClausesAtTheLimits(t *testing.T) {
	p := truth("p")
	var clauses [][]int
	for h := 2; h <= 100; h++ {
		clauses = append(clauses, c(-h, h-1), c(h, 1-h))
	}
	want(t, nest(api.And, 99, p), 100, l(p), append(clauses, c(100))...)
	for h := 2; h <= 100; h++ {
		clauses[2*h-4], clauses[2*h-3] = clauses[2*h-3], clauses[2*h-4]
	}
	want(t, nest(api.Or, 99, p), 100, l(p), append(clauses, c(100))...)
	want(t, chain(99, no()), 1, nil, c(-1), c(-1))
	if got := asked(and(many(999, not(p))...)); got.err != api.OK || len(got.clauses) != 1001 || got.vars != 2 {
		t.Errorf("%d, %d clauses, %d variables", got.err, len(got.clauses), got.vars)
	}
	if got := asked(or(many(666, imp(p, p))...)); got.err != api.OK || len(got.clauses) != 666*3+666+2 || got.vars != 668 {
		t.Errorf("%d, %d clauses, %d variables", got.err, len(got.clauses), got.vars)
	}
}

// told is what is written in api beside each operation: its sort, and what it has.
func told(op int) (sort int, name, n, many bool, parts []int) {
	i, s, d, b := api.Int, api.Set, api.Node, api.Bool
	switch op {
	case api.Num:
		return i, false, true, false, nil
	case api.IntVar:
		return i, true, false, false, nil
	case api.Card:
		return i, false, false, false, []int{s}
	case api.Add, api.Sub:
		return i, false, false, false, []int{i, i}
	case api.Mul:
		return i, false, true, false, []int{i}
	case api.SetVar:
		return s, true, false, false, nil
	case api.Empty, api.All:
		return s, false, false, false, nil
	case api.One:
		return s, false, false, false, []int{d}
	case api.Union, api.Inter, api.Minus:
		return s, false, false, false, []int{s, s}
	case api.NodeVar:
		return d, true, false, false, nil
	case api.BoolVar:
		return b, true, false, false, nil
	case api.True, api.False:
		return b, false, false, false, nil
	case api.Not:
		return b, false, false, false, []int{b}
	case api.And, api.Or:
		return b, false, false, true, nil
	case api.Imp:
		return b, false, false, false, []int{b, b}
	case api.Le, api.Lt, api.Eq:
		return b, false, false, false, []int{i, i}
	case api.In:
		return b, false, false, false, []int{d, s}
	case api.Subset, api.SameSet:
		return b, false, false, false, []int{s, s}
	}
	return b, false, false, false, []int{d, d}
}

// grow is some right term of this sort, of at most so many levels below it; bools are mostly such as have parts that are bools.
func grow(source *rand.Rand, levels, sort int) api.Term {
	var ops []int
	for op := 1; op <= 28; op++ {
		if s, _, _, many, parts := told(op); s == sort && (levels > 0 || !many && len(parts) == 0) {
			ops = append(ops, op)
		}
	}
	op := ops[source.Intn(len(ops))]
	if sort == api.Bool && levels > 0 && source.Intn(3) > 0 {
		op = []int{api.Not, api.And, api.Or, api.Imp}[source.Intn(4)]
	}
	_, hasName, hasN, many, parts := told(op)
	t := api.Term{Op: op}
	if hasName {
		t.Name = []string{"a", "b", "c"}[source.Intn(3)]
	}
	if hasN {
		t.N = []int64{-2, 0, 1, 3, math.MaxInt64}[source.Intn(5)]
	}
	if many {
		parts = slices.Repeat([]int{api.Bool}, source.Intn(4))
	}
	for _, s := range parts {
		t.A = append(t.A, grow(source, levels-1, s))
	}
	return t
}

// spot is a part of a bool that is reached: what it is, and where its parts stand in the list of all.
type spot struct {
	t     api.Term
	parts []int
}

// reached lists what is reached, each behind its parts, from the left to the right, and tells the last place.
func reached(t api.Term, all *[]spot) int {
	s := spot{t: t}
	if slices.Contains([]int{api.Not, api.And, api.Or, api.Imp}, t.Op) {
		for _, part := range t.A {
			s.parts = append(s.parts, reached(part, all))
		}
	}
	*all = append(*all, s)
	return len(*all) - 1
}

// byWords is what the chapter says of a right bool: atoms by a text of each, all literals, then all clauses.
func byWords(t api.Term) (a answer) {
	var all []spot
	reached(t, &all)
	literals, known := make([]int, len(all)), map[string]int{}
	for i, s := range all {
		if s.t.Op >= api.True && s.t.Op <= api.Imp {
			continue
		}
		text := fmt.Sprintf("%+v", s.t)
		if known[text] == 0 {
			a.atoms = append(a.atoms, s.t)
			known[text] = len(a.atoms)
		}
		literals[i] = known[text]
	}
	a.vars = len(a.atoms)
	for i, s := range all {
		switch s.t.Op {
		case api.True, api.False, api.And, api.Or, api.Imp:
			a.vars++
			literals[i] = a.vars
		case api.Not:
			literals[i] = -literals[s.parts[0]]
		}
	}
	for i, s := range all {
		var parts []int
		for _, k := range s.parts {
			parts = append(parts, literals[k])
		}
		a.clauses = append(a.clauses, meaning(s.t.Op, literals[i], parts)...)
	}
	a.clauses = append(a.clauses, c(literals[len(all)-1]))
	return a
}

// meaning is the clauses of one h, as the chapter lists them.
func meaning(op, h int, parts []int) (clauses [][]int) {
	switch op {
	case api.True:
		return [][]int{{h}}
	case api.False:
		return [][]int{{-h}}
	case api.Imp:
		return [][]int{{h, parts[0]}, {h, -parts[1]}, {-h, -parts[0], parts[1]}}
	case api.And:
		all := c(h)
		for _, a := range parts {
			clauses, all = append(clauses, c(-h, a)), append(all, -a)
		}
		return append(clauses, all)
	case api.Or:
		all := c(-h)
		for _, a := range parts {
			clauses, all = append(clauses, c(h, -a)), append(all, a)
		}
		return append(clauses, all)
	}
	return nil
}

// G1: grown terms, held against the chapter's words.
func TestClausesGrown(t *testing.T) {
	source := rand.New(rand.NewSource(41))
	tried, atoms := 0, 0
	for i := range 4000 {
		x := grow(source, source.Intn(9), api.Bool)
		if i%10 == 0 {
			x = and(many(1999/term.Size(x), x)...)
		}
		if term.Size(x) > api.MaxSize {
			wantError(t, "grown too large", x, api.ErrFull)
			continue
		}
		wanted := byWords(x)
		if got := asked(x); !got.is(wanted) {
			t.Fatalf("Clauses(%s): %.400v, not %.400v", short(x), fmt.Sprint(got), fmt.Sprint(wanted))
		}
		tried++
		atoms = max(atoms, len(wanted.atoms))
	}
	if tried < 3500 || atoms < 20 {
		t.Errorf("only %d tried, of at most %d atoms", tried, atoms)
	}
}

// holds tells whether a clause is true, given which variables are.
func holds(clause []int, is []bool) bool {
	return slices.ContainsFunc(clause, func(l int) bool { return l > 0 && is[l] || l < 0 && !is[-l] })
}

// value is what a bool is, given what its atoms are.
func value(t api.Term, atoms []api.Term, is []bool) bool {
	part := func(i int) bool { return value(t.A[i], atoms, is) }
	switch t.Op {
	case api.True:
		return true
	case api.False:
		return false
	case api.Not:
		return !part(0)
	case api.Imp:
		return !part(0) || part(1)
	case api.And, api.Or:
		count := 0
		for i := range t.A {
			if part(i) {
				count++
			}
		}
		return t.Op == api.And && count == len(t.A) || t.Op == api.Or && count > 0
	}
	return is[1+slices.IndexFunc(atoms, func(a api.Term) bool { return term.Same(a, t) })]
}

// What follows: whatever atoms are true, one way to make the others so makes all clauses but the last one true, which is as the term is.
func TestClausesHaveOneWay(t *testing.T) {
	source := rand.New(rand.NewSource(43))
	tried, count := 0, map[bool]int{}
	for range 6000 {
		x := grow(source, 1+source.Intn(4), api.Bool)
		got := asked(x)
		if got.err != api.OK || got.vars > 9 {
			continue
		}
		tried++
		ways := make([]int, 1<<len(got.atoms))
		for bits := range 1 << got.vars {
			is := make([]bool, got.vars+1)
			for v := range got.vars {
				is[v+1] = bits>>v&1 == 1
			}
			last := len(got.clauses) - 1
			if slices.ContainsFunc(got.clauses[:last], func(clause []int) bool { return !holds(clause, is) }) {
				continue
			}
			ways[bits%len(ways)]++
			so := value(x, got.atoms, is)
			count[so]++
			if holds(got.clauses[last], is) != so {
				t.Fatalf("Clauses(%v): the last clause is not as the term is", x)
			}
		}
		if slices.ContainsFunc(ways, func(n int) bool { return n != 1 }) {
			t.Fatalf("Clauses(%v): so many ways each: %v", x, ways)
		}
	}
	if tried < 3000 || count[true] < 3000 || count[false] < 3000 {
		t.Errorf("only %d tried, %v", tried, count)
	}
}

// someWorld is a world with values of all names.
func someWorld(source *rand.Rand) api.World {
	w := api.World{Nodes: 1 + source.Intn(4)}
	for _, name := range []string{"a", "b", "c"} {
		s := make([]bool, w.Nodes)
		for i := range s {
			s[i] = source.Intn(2) == 0
		}
		for _, v := range []api.Value{{Sort: api.Int, N: int64(source.Intn(5) - 1)}, {Sort: api.Set, S: s}, {Sort: api.Node, N: int64(source.Intn(w.Nodes))}, {Sort: api.Bool, B: source.Intn(2) == 0}} {
			w = eval.With(w, name, v)
		}
	}
	return w
}

// What follows, of worlds: what the atoms are in one, and then the clauses one by one, make the last one as the term is in it.
func TestClausesAndWorlds(t *testing.T) {
	source := rand.New(rand.NewSource(47))
	count := map[bool]int{}
	for range 5000 {
		x, w := grow(source, 1+source.Intn(6), api.Bool), someWorld(source)
		got := asked(x)
		v, err := eval.Eval(x, w)
		if got.err != api.OK || err != api.OK {
			continue
		}
		is := make([]bool, got.vars+1)
		for i, atom := range got.atoms {
			b, err := eval.Eval(atom, w)
			if err != api.OK {
				t.Fatalf("an atom of %v has no value: %v", x, atom)
			}
			is[i+1] = b.B
		}
		// All clauses of a variable stand ahead of those of the next one, and one of them asks for it.
		for _, clause := range got.clauses[:len(got.clauses)-1] {
			if h := clause[0]; h > 0 && !slices.ContainsFunc(clause[1:], func(l int) bool { return holds([]int{l}, is) }) {
				is[h] = true
			}
		}
		for _, clause := range got.clauses[:len(got.clauses)-1] {
			if !holds(clause, is) {
				t.Fatalf("Clauses(%v): %v is not true", x, clause)
			}
		}
		if holds(got.clauses[len(got.clauses)-1], is) != v.B {
			t.Fatalf("Clauses(%v): the term is %v", x, v.B)
		}
		count[v.B]++
	}
	if count[true] < 1000 || count[false] < 1000 {
		t.Errorf("only %v", count)
	}
}

// memoryTerms is terms of many kinds, some of which share memory in themselves.
func memoryTerms() (terms []api.Term) {
	source := rand.New(rand.NewSource(53))
	for range 600 {
		terms = append(terms, grow(source, 5, api.Bool))
	}
	for _, x := range atomKinds() {
		terms = append(terms, x, not(x), and(x, x), imp(x, or(x, yes())))
	}
	total := made(api.Add, integer("x"), times(2, integer("y")))
	return append(terms, or(le(total, total), le(total, number(1)), made(api.Eq, total, total)))
}

// R1: what is handed in stays as it was, and is not kept.
func TestClausesKeepNothing(t *testing.T) {
	for _, x := range memoryTerms() {
		was := clone(x)
		got := asked(x)
		if !term.Same(x, was) {
			t.Fatalf("what was handed in changed: %v", was)
		}
		before := got.own()
		x = clone(x)
		got = asked(x)
		spoil(x)
		if !got.is(before) {
			t.Fatalf("the answer changed with what was handed in: %v", was)
		}
	}
	for _, x := range slices.Concat(wrong(), noBool()) {
		was := clone(x)
		Clauses(x)
		if !term.Same(x, was) {
			t.Errorf("what has an error changed: %v", was)
		}
	}
}

// places adds where each list of parts of the terms stands to seen, and tells whether all of them are new.
func places(terms []api.Term, seen map[*api.Term]int) bool {
	alone := true
	if len(terms) > 0 {
		seen[&terms[0]]++
		alone = seen[&terms[0]] == 1
	}
	for _, t := range terms {
		alone = places(t.A, seen) && alone
	}
	return alone
}

// R1: what is answered is the caller's: written over, nothing else changes, not even another part of it.
func TestClausesAnswerNewMemory(t *testing.T) {
	for _, x := range memoryTerms() {
		was := clone(x)
		got, again := asked(x), asked(x)
		seen := map[*api.Term]int{}
		places(x.A, seen)
		if !places(got.atoms, seen) || !places(again.atoms, seen) {
			t.Fatalf("lists of the answer share memory: %v", x)
		}
		wanted := again.own()
		for i, clause := range got.clauses {
			rest := answer{clauses: got.clauses[i+1:]}
			before := rest.own()
			room := clause[:cap(clause)]
			for k := range room {
				room[k] = 12345
			}
			if !rest.is(before) {
				t.Fatalf("clauses share memory: %v", x)
			}
		}
		spoil(api.Term{A: got.atoms})
		room := got.clauses[:cap(got.clauses)]
		for i := range room {
			room[i] = nil
		}
		if !term.Same(x, was) || !again.is(wanted) || !asked(x).is(wanted) {
			t.Fatalf("something changed with the answer: %v", was)
		}
	}
}

// R4: the same answers each time.
func TestClausesAreSteady(t *testing.T) {
	source := rand.New(rand.NewSource(59))
	for range 200 {
		x := grow(source, 6, api.Bool)
		first := asked(x)
		for range 3 {
			if !asked(x).is(first) {
				t.Fatalf("another answer for %v", x)
			}
		}
	}
}
