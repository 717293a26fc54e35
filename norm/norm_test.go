package norm

import (
	"fmt"
	"math"
	"math/rand"
	"slices"
	"testing"

	"ashlar/api"
	"ashlar/eval"
	"ashlar/term"
)

// made makes a term of parts, named one of a name, number a Num, times a Mul.
func made(op int, parts ...api.Term) api.Term { return api.Term{Op: op, A: parts} }
func named(op int, name string) api.Term      { return api.Term{Op: op, Name: name} }
func number(n int64) api.Term                 { return api.Term{Op: api.Num, N: n} }
func times(n int64, part api.Term) api.Term   { return api.Term{Op: api.Mul, N: n, A: []api.Term{part}} }

// integer, set, node and truth make terms that are names.
func integer(name string) api.Term { return named(api.IntVar, name) }
func set(name string) api.Term     { return named(api.SetVar, name) }
func node(name string) api.Term    { return named(api.NodeVar, name) }
func truth(name string) api.Term   { return named(api.BoolVar, name) }

// not, and, or, le make bools of others, yes and no are True and False.
func not(t api.Term) api.Term           { return made(api.Not, t) }
func and(parts ...api.Term) api.Term    { return made(api.And, parts...) }
func or(parts ...api.Term) api.Term     { return made(api.Or, parts...) }
func imp(u, v api.Term) api.Term        { return made(api.Imp, u, v) }
func le(a, b api.Term) api.Term         { return made(api.Le, a, b) }
func one(n api.Term) api.Term           { return made(api.One, n) }
func yes() api.Term                     { return made(api.True) }
func no() api.Term                      { return made(api.False) }
func noneBeside(a, b api.Term) api.Term { return le(made(api.Card, made(api.Minus, a, b)), number(0)) }

// chain is x below so many Nots, nest x below so many terms of this operation alone, many x so many times.
func chain(levels int, x api.Term) api.Term { return nest(api.Not, levels, x) }
func nest(op, levels int, x api.Term) api.Term {
	for range levels {
		x = made(op, x)
	}
	return x
}
func many(count int, x api.Term) []api.Term { return slices.Repeat([]api.Term{x}, count) }

// loop is a term that is a part of itself.
func loop() api.Term {
	l := make([]api.Term, 2)
	l[0] = api.Term{Op: api.And, A: l}
	l[1] = l[0]
	return l[0]
}

// clone is t in memory of its own.
func clone(t api.Term) api.Term {
	t.A = slices.Clone(t.A)
	for i := range t.A {
		t.A[i] = clone(t.A[i])
	}
	return t
}

// spoil writes over all parts of a term, and behind them as far as there is room.
func spoil(t api.Term) {
	for i := range t.A {
		spoil(t.A[i])
	}
	room := t.A[:cap(t.A)]
	for i := range room {
		room[i] = api.Term{Op: 99, Name: "spoilt", N: -1}
	}
}

// short is a term as a text, if it is small enough to be looked at.
func short(t api.Term) string {
	if size := term.Size(t); size > 40 {
		return fmt.Sprint("a term of size ", size, " and depth ", term.Deep(t))
	}
	return fmt.Sprint(t)
}

// wantNorm asks for what a term becomes, and that Is says so of it, and of it alone.
func wantNorm(t *testing.T, x, want api.Term) {
	t.Helper()
	got, err := Norm(x)
	if err != api.OK || !term.Same(got, want) {
		t.Errorf("Norm(%s): %s, %d, not %s", short(x), short(got), err, short(want))
		return
	}
	if !Is(got) || Is(x) != term.Same(x, want) {
		t.Errorf("Is(%s): %v, and of what it becomes, %s: %v", short(x), Is(x), short(got), Is(got))
	}
}

// wantError asks for an error, and for nothing else.
func wantError(t *testing.T, what string, x api.Term, want api.Errno) {
	t.Helper()
	if got, err := Norm(x); err != want || got.Op != 0 || got.Name != "" || got.N != 0 || len(got.A) != 0 {
		t.Errorf("%s: %d and a term of Op %d, not %d and nothing", what, err, got.Op, want)
	}
}

// kind is a bool, what it becomes, and what Not of it becomes.
type kind struct {
	what    string
	t, n, d api.Term
}

// comparisons is each row of the chapter's table that is made of an int, a set or a node.
func comparisons(x, y, a, b, n, m api.Term) []kind {
	return []kind{
		{"Le", le(x, y), le(x, y), not(le(x, y))},
		{"Lt", made(api.Lt, x, y), not(le(y, x)), le(y, x)},
		{"Eq", made(api.Eq, x, y), and(le(x, y), le(y, x)), or(not(le(x, y)), not(le(y, x)))},
		{"Subset", made(api.Subset, a, b), noneBeside(a, b), not(noneBeside(a, b))},
		{"In", made(api.In, n, a), noneBeside(one(n), a), not(noneBeside(one(n), a))},
		{"SameNode", made(api.SameNode, n, m), noneBeside(one(n), one(m)), not(noneBeside(one(n), one(m)))},
		{"SameSet", made(api.SameSet, a, b), and(noneBeside(a, b), noneBeside(b, a)), or(not(noneBeside(a, b)), not(noneBeside(b, a)))},
	}
}

// kinds is each row of the chapter's table, of names alone.
func kinds() []kind {
	p, q := truth("p"), truth("q")
	return append(comparisons(integer("x"), integer("y"), set("a"), set("b"), node("n"), node("m")), []kind{
		{"BoolVar", p, p, not(p)},
		{"True", yes(), yes(), no()},
		{"False", no(), no(), yes()},
		{"Not", not(p), not(p), p},
		{"And", and(p, q), and(p, q), or(not(p), not(q))},
		{"Or", or(p, q), or(p, q), and(not(p), not(q))},
		{"Imp", imp(p, q), or(not(p), q), and(p, not(q))},
	}...)
}

// F1: each row of the table, in both columns, also below more Nots.
func TestNormOfEachRow(t *testing.T) {
	for _, k := range kinds() {
		for levels := range 8 {
			want := k.n
			if levels%2 == 1 {
				want = k.d
			}
			wantNorm(t, chain(levels, k.t), want)
		}
		wantNorm(t, k.n, k.n)
		wantNorm(t, k.d, k.d)
		wantNorm(t, not(k.n), k.d)
		wantNorm(t, not(k.d), k.n)
	}
	for levels := range 100 {
		wantNorm(t, chain(levels, truth("p")), chain(levels%2, truth("p")))
	}
}

// F1: the chapter's example.
func TestNormExample(t *testing.T) {
	a, b := integer("a"), integer("b")
	wantNorm(t, not(made(api.Lt, a, b)), le(b, a))
}

// F1: each row below each operation of bools, at each place.
func TestNormOfRowsInside(t *testing.T) {
	for _, k := range kinds() {
		for _, o := range kinds() {
			wantNorm(t, and(k.t, o.t), and(k.n, o.n))
			wantNorm(t, not(and(k.t, o.t)), or(k.d, o.d))
			wantNorm(t, or(k.t, o.t), or(k.n, o.n))
			wantNorm(t, not(or(k.t, o.t)), and(k.d, o.d))
			wantNorm(t, imp(k.t, o.t), or(k.d, o.n))
			wantNorm(t, not(imp(k.t, o.t)), and(k.n, o.d))
			wantNorm(t, imp(not(k.t), not(o.t)), or(k.n, o.d))
			wantNorm(t, not(imp(imp(k.t, o.t), and(not(or(o.t)), k.t))), and(or(k.d, o.n), or(or(o.n), k.d)))
		}
	}
}

// F1: And and Or of nothing, of one and of many, in their order.
func TestNormOfAndAndOr(t *testing.T) {
	var ts, ns, ds []api.Term
	for i := range 40 {
		all := kinds()
		k := all[i%len(all)]
		wantNorm(t, and(ts...), and(ns...))
		wantNorm(t, or(ts...), or(ns...))
		wantNorm(t, not(and(ts...)), or(ds...))
		wantNorm(t, not(or(ts...)), and(ds...))
		ts, ns, ds = append(ts, k.t), append(ns, k.n), append(ds, k.d)
	}
	for _, empty := range [][]api.Term{nil, {}, make([]api.Term, 0, 5)} {
		wantNorm(t, api.Term{Op: api.And, A: empty}, and())
		wantNorm(t, api.Term{Op: api.Or, A: empty}, or())
		wantNorm(t, not(api.Term{Op: api.And, A: empty}), or())
		wantNorm(t, not(api.Term{Op: api.Or, A: empty}), and())
		wantNorm(t, api.Term{Op: api.True, A: empty}, yes())
		wantNorm(t, not(api.Term{Op: api.True, A: empty}), no())
	}
	p := truth("p")
	wantNorm(t, and(p), and(p))
	wantNorm(t, not(and(p)), or(not(p)))
	wantNorm(t, or(and(p), and(), or()), or(and(p), and(), or()))
	wantNorm(t, not(or(and(p, p), and(), or(), yes(), no())), and(or(not(p), not(p)), or(), and(), no(), yes()))
}

// F1: ints and sets inside stay as they are, whatever they are made of.
func TestNormLeavesIntsAndSets(t *testing.T) {
	a, b, n := set("a"), set("b"), node("n")
	ints := []api.Term{number(0), number(math.MinInt64), number(math.MaxInt64), integer("x"), made(api.Card, made(api.Minus, a, a)), made(api.Add, number(1), number(2)), made(api.Sub, integer("x"), integer("x")), times(0, integer("y")), times(-7, made(api.Card, made(api.All)))}
	sets := []api.Term{a, made(api.Empty), made(api.All), one(n), made(api.Union, a, a), made(api.Inter, b, made(api.Empty)), made(api.Minus, made(api.Minus, a, b), one(n))}
	for i, x := range ints {
		for _, y := range ints {
			for _, k := range comparisons(x, y, sets[i%len(sets)], sets[(i+3)%len(sets)], n, n) {
				wantNorm(t, k.t, k.n)
				wantNorm(t, not(k.t), k.d)
			}
		}
	}
	for _, a := range sets {
		for _, b := range sets {
			for _, k := range comparisons(number(1), made(api.Card, a), a, b, n, node("m")) {
				wantNorm(t, and(k.t, not(k.t)), and(k.n, k.d))
			}
		}
	}
}

// wrong is terms that are not right, full such that are too large or too deep, noBool right ones of other sorts.
func wrong() []api.Term {
	return []api.Term{{}, {Op: 29}, {Op: -1}, truth(""), truth("9"), truth("abcdefghijklmnopq"), {Op: api.True, N: 1}, {Op: api.False, Name: "p"}, made(api.True, truth("p")), made(api.Not), made(api.Not, truth("p"), truth("p")), and(truth("p"), number(1)), or(yes(), set("a")), {Op: api.And, N: 1}, imp(yes(), integer("x")), made(api.Imp, yes()), le(integer("x"), truth("x")), made(api.Lt, number(1)), made(api.Eq, set("a"), set("a")), made(api.Subset, node("n"), set("a")), made(api.In, set("a"), node("n")), made(api.SameNode, one(node("n")), one(node("n"))), made(api.SameSet, node("n"), node("n")), {Op: api.BoolVar, Name: "p", A: []api.Term{yes()}}, {Op: api.Num, Name: "x"}, made(api.Card, number(1)), integer("")}
}
func full() []api.Term {
	p := truth("p")
	return []api.Term{chain(100, p), and(many(2000, p)...), chain(5000, p), loop(), or(many(3000, api.Term{})...), nest(api.Card, 200, p), made(api.Add, many(2000, number(1))...), nest(api.And, 100, yes())}
}
func noBool() []api.Term {
	a, n := set("a"), node("n")
	return []api.Term{number(1), integer("x"), made(api.Card, a), made(api.Add, number(1), number(2)), made(api.Sub, integer("x"), number(2)), times(2, integer("x")), a, made(api.Empty), made(api.All), one(n), made(api.Union, a, a), made(api.Inter, a, a), made(api.Minus, a, a), n}
}

// F1: errors of what is handed in: that of Sort goes ahead.
func TestNormErrors(t *testing.T) {
	for _, x := range wrong() {
		for what, y := range map[string]api.Term{"not right": x, "not right below Not": not(x), "not right deep inside": not(and(yes(), or(truth("p"), imp(yes(), x))))} {
			wantError(t, what, y, api.ErrSort)
			if Is(y) {
				t.Errorf("%s: Is(%s)", what, short(y))
			}
		}
	}
	for _, x := range full() {
		for what, y := range map[string]api.Term{"full": x, "full below Not": not(x), "full, and not right": made(99, x), "full, and no Bool": made(api.Card, x)} {
			wantError(t, what, y, api.ErrFull)
			if Is(y) {
				t.Errorf("%s: Is", what)
			}
		}
	}
	for _, x := range noBool() {
		wantError(t, "no Bool", x, api.ErrSort)
		wantError(t, "a part that is no Bool", and(x), api.ErrSort)
		if Is(x) || Is(and(x)) || Is(not(x)) {
			t.Errorf("Is(%v)", x)
		}
	}
	deep := integer("x")
	for range 99 {
		deep = times(1, deep)
	}
	wantError(t, "an int at the limit of depth", deep, api.ErrSort)
	wantError(t, "an int that is too deep", times(1, deep), api.ErrFull)
	wantError(t, "an int at the limit of size", times(1, sum(1999)), api.ErrSort)
	wantError(t, "an int that is too large", sum(2001), api.ErrFull)
}

// sum is an int of this size, that is odd.
func sum(size int) api.Term {
	if size == 1 {
		return number(1)
	}
	left := size/4*2 + 1
	return made(api.Add, sum(left), sum(size-1-left))
}

// F1: what is made may be as large as a term may be, and no larger, by each row.
func TestNormTooLarge(t *testing.T) {
	tried := 0
	for _, k := range kinds() {
		if size := term.Size(k.n); size > term.Size(k.t) {
			count := 1999 / size
			rest := 1999 - count*size
			x := append(many(count, k.t), many(rest, yes())...)
			wantNorm(t, and(x...), and(append(many(count, k.n), many(rest, yes())...)...))
			wantError(t, k.what+", made too large", and(append(x, yes())...), api.ErrFull)
			wantError(t, k.what+", made far too large", or(many(1999/term.Size(k.t), k.t)...), api.ErrFull)
			tried++
		}
		if size := term.Size(k.d); size > term.Size(k.t) {
			count := 1999 / size
			rest := 1999 - count*size - 1
			x := append(many(count, k.t), many(rest+1, no())...)
			wantNorm(t, not(or(x...)), and(append(many(count, k.d), many(rest+1, yes())...)...))
			wantError(t, "Not of "+k.what+", made too large", not(or(append(x, no())...)), api.ErrFull)
			tried++
		}
	}
	if tried < 16 {
		t.Errorf("only %d rows grow", tried)
	}
	p := truth("p")
	wantNorm(t, or(many(666, not(not(p)))...), or(many(666, p)...))
	wantError(t, "too large, although what would be made is not", or(many(667, not(not(p)))...), api.ErrFull)
	wantNorm(t, and(many(1999, p)...), and(many(1999, p)...))
	wantNorm(t, not(and(many(999, p)...)), or(many(999, not(p))...))
	wantError(t, "Not of too many names", not(and(many(1000, p)...)), api.ErrFull)
}

// F1: what is made may be as deep as a term may be, and no deeper, by each row.
func TestNormTooDeep(t *testing.T) {
	tried := 0
	for _, k := range kinds() {
		if deep := term.Deep(k.n); deep > term.Deep(k.t) {
			wantNorm(t, nest(api.And, 100-deep, k.t), nest(api.And, 100-deep, k.n))
			wantError(t, k.what+", made too deep", nest(api.And, 101-deep, k.t), api.ErrFull)
			wantError(t, k.what+", a part made too deep", or(yes(), nest(api.Or, 100-deep, k.t), truth("p")), api.ErrFull)
			tried++
		}
		if deep := term.Deep(k.d); deep > term.Deep(k.t) {
			wantNorm(t, nest(api.Or, 99-deep, imp(k.t, no())), nest(api.Or, 99-deep, or(k.d, no())))
			wantError(t, "Not of "+k.what+", made too deep", nest(api.Or, 100-deep, imp(k.t, no())), api.ErrFull)
			tried++
		}
	}
	if tried < 15 {
		t.Errorf("only %d rows become deeper", tried)
	}
	p := truth("p")
	wantNorm(t, nest(api.And, 99, p), nest(api.And, 99, p))
	wantNorm(t, not(nest(api.And, 98, p)), nest(api.Or, 98, not(p)))
	wantNorm(t, nest(api.And, 50, chain(48, made(api.Subset, set("a"), set("b")))), nest(api.And, 50, noneBeside(set("a"), set("b"))))
}

// F1: Is of each operation, outside and deep inside, and of Not of each.
func TestIs(t *testing.T) {
	few := []int{api.BoolVar, api.Le, api.True, api.False, api.And, api.Or}
	for _, k := range kinds() {
		want := slices.Contains(few, k.t.Op) || k.what == "Not"
		wantNot := k.t.Op == api.BoolVar || k.t.Op == api.Le
		for i, inside := range []func(api.Term) api.Term{
			func(x api.Term) api.Term { return x },
			func(x api.Term) api.Term { return and(x) },
			func(x api.Term) api.Term { return or(truth("q"), x, yes()) },
			func(x api.Term) api.Term {
				return and(no(), or(and(not(truth("p"))), and(x, le(number(1), number(2)))))
			},
			func(x api.Term) api.Term { return nest(api.Or, 90, x) },
		} {
			if Is(inside(k.t)) != want || Is(inside(not(k.t))) != wantNot || !Is(inside(k.n)) || !Is(inside(k.d)) {
				t.Errorf("Is of %s, at place %d: %v, %v, %v, %v", k.what, i, Is(inside(k.t)), Is(inside(not(k.t))), Is(inside(k.n)), Is(inside(k.d)))
			}
			if Is(inside(chain(2, k.t))) || Is(inside(imp(k.n, k.n))) || Is(inside(not(and(k.n)))) {
				t.Errorf("Is of what has more than it may, %s, at place %d", k.what, i)
			}
		}
	}
	if !Is(and()) || !Is(or()) || Is(not(and())) || Is(not(or())) || Is(not(yes())) || Is(not(no())) {
		t.Error("Is of nothing")
	}
}

// F1: Is at the limits, and of Le of whatever ints and sets.
func TestIsAtTheLimits(t *testing.T) {
	p := truth("p")
	for _, c := range []struct {
		x    api.Term
		want bool
	}{
		{nest(api.And, 99, p), true}, {nest(api.And, 100, p), false}, {nest(api.Or, 98, not(p)), true}, {nest(api.Or, 99, not(p)), false},
		{and(many(1999, p)...), true}, {and(many(2000, p)...), false}, {or(many(999, not(p))...), true}, {or(many(1000, not(p))...), false}, {loop(), false}, {not(loop()), false},
	} {
		if Is(c.x) != c.want {
			t.Errorf("Is(%s): %v", short(c.x), !c.want)
		}
	}
	source := rand.New(rand.NewSource(3))
	for range 300 {
		x := le(grow(source, 4, api.Int), grow(source, 4, api.Int))
		if !Is(x) || !Is(not(x)) || Is(not(not(x))) || Is(made(api.Lt, x.A...)) || Is(made(api.Eq, x.A...)) {
			t.Errorf("Is(%v)", x)
		}
		wantNorm(t, x, x)
	}
}

// told is what is written in api beside each operation: its sort, and what it has.
func told(op int) (sort int, name, n, many bool, parts []int) {
	i, s, d, b := api.Int, api.Set, api.Node, api.Bool
	switch op {
	case api.Num:
		return i, false, true, false, nil
	case api.IntVar:
		return i, true, false, false, nil
	case api.Card:
		return i, false, false, false, []int{s}
	case api.Add, api.Sub:
		return i, false, false, false, []int{i, i}
	case api.Mul:
		return i, false, true, false, []int{i}
	case api.SetVar:
		return s, true, false, false, nil
	case api.Empty, api.All:
		return s, false, false, false, nil
	case api.One:
		return s, false, false, false, []int{d}
	case api.Union, api.Inter, api.Minus:
		return s, false, false, false, []int{s, s}
	case api.NodeVar:
		return d, true, false, false, nil
	case api.BoolVar:
		return b, true, false, false, nil
	case api.True, api.False:
		return b, false, false, false, nil
	case api.Not:
		return b, false, false, false, []int{b}
	case api.And, api.Or:
		return b, false, false, true, nil
	case api.Imp:
		return b, false, false, false, []int{b, b}
	case api.Le, api.Lt, api.Eq:
		return b, false, false, false, []int{i, i}
	case api.In:
		return b, false, false, false, []int{d, s}
	case api.Subset, api.SameSet:
		return b, false, false, false, []int{s, s}
	}
	return b, false, false, false, []int{d, d}
}

// grow is some right term of this sort, of at most so many levels below it.
func grow(source *rand.Rand, levels, sort int) api.Term {
	var ops []int
	for op := 1; op <= 28; op++ {
		if s, _, _, many, parts := told(op); s == sort && (levels > 0 || !many && len(parts) == 0) {
			ops = append(ops, op)
		}
	}
	op := ops[source.Intn(len(ops))]
	_, hasName, hasN, many, parts := told(op)
	t := api.Term{Op: op}
	if hasName {
		t.Name = []string{"a", "b", "c", "d"}[source.Intn(4)]
	}
	if hasN {
		t.N = []int64{-2, -1, 0, 1, 2, 3, math.MaxInt64, math.MinInt64}[source.Intn(8)]
	}
	if many {
		parts = slices.Repeat([]int{api.Bool}, source.Intn(4))
	}
	for _, s := range parts {
		t.A = append(t.A, grow(source, levels-1, s))
	}
	return t
}

// byWords is what the chapter says, in two steps: other operations are told by fewer, then each Not is moved down.
func byWords(t api.Term) api.Term { return moved(fewer(t)) }

func fewer(t api.Term) api.Term {
	both := func(op int) api.Term {
		return and(fewer(made(op, t.A[0], t.A[1])), fewer(made(op, t.A[1], t.A[0])))
	}
	switch t.Op {
	case api.Imp:
		return or(not(fewer(t.A[0])), fewer(t.A[1]))
	case api.Lt:
		return not(le(t.A[1], t.A[0]))
	case api.Eq:
		return both(api.Le)
	case api.SameSet:
		return both(api.Subset)
	case api.In:
		return fewer(made(api.Subset, one(t.A[0]), t.A[1]))
	case api.SameNode:
		return fewer(made(api.Subset, one(t.A[0]), one(t.A[1])))
	case api.Subset:
		return noneBeside(t.A[0], t.A[1])
	case api.Not, api.And, api.Or:
		x := made(t.Op)
		for _, part := range t.A {
			x.A = append(x.A, fewer(part))
		}
		return x
	}
	return t
}

func moved(t api.Term) api.Term {
	x := t
	if t.Op == api.Not {
		switch below := t.A[0]; below.Op {
		case api.Not:
			return moved(below.A[0])
		case api.True:
			return no()
		case api.False:
			return yes()
		case api.And, api.Or:
			x = made(api.And + api.Or - below.Op)
			for _, part := range below.A {
				x.A = append(x.A, not(part))
			}
		default:
			return t
		}
	}
	if x.Op != api.And && x.Op != api.Or {
		return x
	}
	x.A = slices.Clone(x.A)
	for i, part := range x.A {
		x.A[i] = moved(part)
	}
	return x
}

// F1: grown terms, held against the chapter's words.
func TestNormGrown(t *testing.T) {
	source := rand.New(rand.NewSource(19))
	fit, large := 0, 0
	for i := range 1600 {
		x := grow(source, source.Intn(8), api.Bool)
		if i%2 == 0 {
			x = and(many(1999/term.Size(x), x)...)
		}
		if term.Size(x) > api.MaxSize {
			continue
		}
		want := byWords(x)
		if term.Size(want) > api.MaxSize {
			wantError(t, "grown too large", x, api.ErrFull)
			large++
			continue
		}
		wantNorm(t, x, want)
		wantNorm(t, want, want)
		if _, err := Norm(not(want)); term.Size(x) < api.MaxSize && err == api.OK {
			wantNorm(t, not(x), byWords(not(want)))
		}
		fit++
	}
	if fit < 800 || large < 60 {
		t.Errorf("only %d that fit and %d that are too large", fit, large)
	}
}

// someWorld is a world with values of most names, some of them large.
func someWorld(source *rand.Rand) api.World {
	w := api.World{Nodes: 1 + source.Intn(4)}
	for _, name := range []string{"a", "b", "c", "d"} {
		s := make([]bool, w.Nodes)
		for i := range s {
			s[i] = source.Intn(2) == 0
		}
		i := []int64{-1, 0, 1, 2, 3, math.MaxInt64}[source.Intn(6)]
		for _, v := range []api.Value{{Sort: api.Int, N: i}, {Sort: api.Set, S: s}, {Sort: api.Node, N: int64(source.Intn(w.Nodes))}, {Sort: api.Bool, B: source.Intn(2) == 0}} {
			if source.Intn(40) > 0 {
				w = eval.With(w, name, v)
			}
		}
	}
	return w
}

// What follows: what is made has the same value in any world, or none where there was none.
func TestNormAndValues(t *testing.T) {
	source := rand.New(rand.NewSource(23))
	count := map[string]int{}
	for range 8000 {
		x, w := grow(source, 1+source.Intn(6), api.Bool), someWorld(source)
		got, err := Norm(x)
		if err != api.OK {
			continue
		}
		a, errA := eval.Eval(x, w)
		b, errB := eval.Eval(got, w)
		if (errA == api.OK) != (errB == api.OK) || a.Sort != b.Sort || a.B != b.B {
			t.Fatalf("Norm(%v): %v, %d, not %v, %d", x, b, errB, a, errA)
		}
		count[fmt.Sprint(a.B, errA == api.OK)]++
	}
	for _, what := range []string{"true true", "false true", "false false"} {
		if count[what] < 500 {
			t.Errorf("only %d times %s", count[what], what)
		}
	}
}

// R1: what is handed in stays as it was, and is not kept.
func TestNormKeepsNothing(t *testing.T) {
	source := rand.New(rand.NewSource(29))
	for range 600 {
		x := grow(source, 5, api.Bool)
		was := clone(x)
		got, err := Norm(x)
		Is(x)
		if !term.Same(x, was) {
			t.Fatalf("what was handed in changed: %v", was)
		}
		if err != api.OK {
			continue
		}
		want := clone(got)
		spoil(x)
		if !term.Same(got, want) {
			t.Fatalf("the answer changed with what was handed in: %v", was)
		}
	}
	for _, x := range append(append(wrong(), noBool()...), and(many(600, made(api.Eq, integer("x"), integer("y")))...)) {
		was := clone(x)
		Norm(x)
		Is(x)
		if !term.Same(x, was) {
			t.Errorf("what has an error changed: %v", was)
		}
	}
}

// places adds where each list of parts of t stands to seen, and tells whether all of them are new.
func places(t api.Term, seen map[*api.Term]int) bool {
	alone := true
	if len(t.A) > 0 {
		seen[&t.A[0]]++
		alone = seen[&t.A[0]] == 1
	}
	for _, part := range t.A {
		alone = places(part, seen) && alone
	}
	return alone
}

// R1: what is answered is the caller's: written over, nothing else changes, not even another part of it.
func TestNormAnswersNewMemory(t *testing.T) {
	source := rand.New(rand.NewSource(31))
	var terms []api.Term
	for range 600 {
		terms = append(terms, grow(source, 5, api.Bool))
	}
	total, both := made(api.Add, integer("x"), times(2, integer("y"))), made(api.Union, set("a"), one(node("n")))
	shared := comparisons(total, total, both, both, node("n"), node("n"))
	for _, k := range shared {
		terms = append(terms, k.t, not(k.t), and(k.t, k.t), imp(k.t, k.t), or(k.n, k.d, k.n))
	}
	for _, x := range terms {
		was := clone(x)
		got, err := Norm(x)
		if err != api.OK {
			continue
		}
		again, _ := Norm(x)
		want, seen := clone(again), map[*api.Term]int{}
		places(x, seen)
		if !places(got, seen) || !places(again, seen) {
			t.Fatalf("lists of the answer share memory: %v", x)
		}
		spoil(got)
		if !term.Same(x, was) || !term.Same(again, want) {
			t.Fatalf("something changed with the answer: %v", was)
		}
	}
	roomy := make([]api.Term, 1, 8)
	roomy[0] = truth("p")
	for _, x := range []api.Term{and(roomy...), not(or(roomy...)), {Op: api.Not, A: roomy}} {
		got, _ := Norm(x)
		got.A = append(got.A, yes())
		if room := roomy[:2]; room[1].Op != 0 {
			t.Error("something was written behind the parts that were handed in")
		}
	}
}

// R4: the same answers each time.
func TestNormIsSteady(t *testing.T) {
	source := rand.New(rand.NewSource(37))
	for range 200 {
		x := grow(source, 5, api.Bool)
		first, err := Norm(x)
		is := Is(x)
		for range 3 {
			if again, e := Norm(x); e != err || !term.Same(first, again) || Is(x) != is {
				t.Fatalf("another answer for %v", x)
			}
		}
	}
}
