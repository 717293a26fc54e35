package subst

import (
	"fmt"
	"math"
	"math/rand"
	"slices"
	"strings"
	"testing"

	"ashlar/api"
	"ashlar/eval"
	"ashlar/term"
)

// of makes a term of parts, named one of a name, number a Num, times a Mul.
func of(op int, parts ...api.Term) api.Term { return api.Term{Op: op, A: parts} }
func named(op int, name string) api.Term    { return api.Term{Op: op, Name: name} }
func number(n int64) api.Term               { return api.Term{Op: api.Num, N: n} }
func times(n int64, part api.Term) api.Term { return api.Term{Op: api.Mul, N: n, A: []api.Term{part}} }

// integer, set, node and truth make terms that are names.
func integer(name string) api.Term { return named(api.IntVar, name) }
func set(name string) api.Term     { return named(api.SetVar, name) }
func node(name string) api.Term    { return named(api.NodeVar, name) }
func truth(name string) api.Term   { return named(api.BoolVar, name) }

// becomes is a name that becomes a term.
func becomes(name string, to api.Term) api.Assign { return api.Assign{Name: name, To: to} }

// chain is x below so many Nots.
func chain(levels int, x api.Term) api.Term {
	for range levels {
		x = of(api.Not, x)
	}
	return x
}

// row is an And of x, so many times.
func row(count int, x api.Term) api.Term { return of(api.And, slices.Repeat([]api.Term{x}, count)...) }

// loop is a term that is a part of itself.
func loop() api.Term {
	l := make([]api.Term, 2)
	l[0] = api.Term{Op: api.And, A: l}
	l[1] = l[0]
	return l[0]
}

// clone is t in memory of its own.
func clone(t api.Term) api.Term {
	t.A = slices.Clone(t.A)
	for i := range t.A {
		t.A[i] = clone(t.A[i])
	}
	return t
}

func cloneAll(l []api.Assign) []api.Assign {
	l = slices.Clone(l)
	for i := range l {
		l[i].To = clone(l[i].To)
	}
	return l
}

func sameAll(a, b []api.Assign) bool {
	return slices.EqualFunc(a, b, func(a, b api.Assign) bool { return a.Name == b.Name && term.Same(a.To, b.To) })
}

// spoil writes over all parts of a term, and behind them as far as there is room.
func spoil(t api.Term) {
	for i := range t.A {
		spoil(t.A[i])
	}
	room := t.A[:cap(t.A)]
	for i := range room {
		room[i] = api.Term{Op: 99, Name: "spoilt", N: -1}
	}
}

func wantPut(t *testing.T, x api.Term, l []api.Assign, want api.Term) {
	t.Helper()
	if got, err := Put(x, l); err != api.OK || !term.Same(got, want) {
		t.Errorf("Put(%s, %d names): %s, %d, not %s", short(x), len(l), short(got), err, short(want))
	}
}

// short is a term as a text, if it is small enough to be looked at.
func short(t api.Term) string {
	if size := term.Size(t); size > 40 {
		return fmt.Sprint("a term of size ", size, " and depth ", term.Deep(t))
	}
	return fmt.Sprint(t)
}

// wantError asks for an error, and for nothing else.
func wantError(t *testing.T, what string, x api.Term, l []api.Assign, want api.Errno) {
	t.Helper()
	if got, err := Put(x, l); err != want || got.Op != 0 || got.Name != "" || got.N != 0 || len(got.A) != 0 {
		t.Errorf("%s: %d and a term of Op %d, not %d and nothing", what, err, got.Op, want)
	}
}

// E1: names of each sort, alone and within operations.
func TestPut(t *testing.T) {
	x, y, a, b, n, m, p := integer("x"), integer("y"), set("a"), set("b"), node("n"), node("m"), truth("p")
	next := of(api.Add, y, number(1))
	wantPut(t, x, []api.Assign{becomes("x", next)}, next)
	wantPut(t, a, []api.Assign{becomes("a", of(api.Union, b, of(api.One, n)))}, of(api.Union, b, of(api.One, n)))
	wantPut(t, n, []api.Assign{becomes("n", m)}, m)
	wantPut(t, p, []api.Assign{becomes("p", of(api.In, n, a))}, of(api.In, n, a))
	wantPut(t, of(api.Le, times(-3, x), of(api.Card, a)), []api.Assign{becomes("a", of(api.All)), becomes("x", number(math.MinInt64))}, of(api.Le, times(-3, number(math.MinInt64)), of(api.Card, of(api.All))))
	whole := func(x, a, n, p api.Term) api.Term {
		return of(api.Or, of(api.Imp, p, of(api.Lt, of(api.Sub, x, times(7, x)), number(7))), of(api.In, n, of(api.Minus, a, of(api.One, n))), of(api.And, chain(3, p), of(api.SameNode, n, m)), of(api.Subset, of(api.Inter, a, b), of(api.Empty)), of(api.SameSet, a, a), of(api.Eq, x, y), of(api.True), of(api.False), of(api.And), of(api.Or))
	}
	l := []api.Assign{becomes("p", of(api.Or)), becomes("n", node("k")), becomes("a", of(api.Minus, of(api.All), b)), becomes("x", next)}
	wantPut(t, whole(x, a, n, p), l, whole(next, of(api.Minus, of(api.All), b), node("k"), of(api.Or)))
	for i := range l {
		want := []api.Term{x, a, n, p}
		want[3-i] = l[i].To
		wantPut(t, whole(x, a, n, p), l[i:i+1], whole(want[0], want[1], want[2], want[3]))
	}
}

// E1: without a To for a name it stays as it is.
func TestPutNothing(t *testing.T) {
	sum := of(api.Add, integer("x"), times(2, integer("y")))
	for _, l := range [][]api.Assign{nil, {}, {becomes("z", number(1))}, {becomes("X", number(1)), becomes("xy", number(2)), becomes("xx", number(3))}, {becomes("x", integer("x"))}} {
		wantPut(t, sum, l, sum)
	}
	for _, name := range []string{"", "9", "_x", "x ", "x\x00", "x_0", strings.Repeat("x", 17), strings.Repeat("x", 5000), "\xff"} {
		wantPut(t, sum, []api.Assign{becomes(name, number(1))}, sum)
		wantPut(t, sum, []api.Assign{becomes(name, number(1)), becomes("x", number(2))}, of(api.Add, number(2), times(2, integer("y"))))
	}
	for _, x := range []api.Term{number(5), of(api.Empty), of(api.All), of(api.True), of(api.False), of(api.And), of(api.Or)} {
		wantPut(t, x, []api.Assign{becomes("", number(1)), becomes("", of(api.Empty)), becomes("", of(api.True)), becomes("", node("n"))}, x)
	}
}

// E1: the To must be of the name's sort, for each pair of sorts.
func TestPutOfOtherSorts(t *testing.T) {
	names := []api.Term{integer("v"), set("v"), node("v"), truth("v")}
	tos := []api.Term{number(3), of(api.All), node("w"), of(api.True)}
	for i, x := range names {
		for k, to := range tos {
			want := x
			if i == k {
				want = to
			}
			wantPut(t, x, []api.Assign{becomes("v", to)}, want)
		}
	}
	four := func(l []api.Term) api.Term {
		return of(api.And, of(api.Le, l[0], number(0)), of(api.In, l[2], l[1]), l[3])
	}
	for _, from := range []int{0, 1, 2, 3} {
		var l []api.Assign
		for i := range tos {
			l = append(l, becomes("v", tos[(from+i)%4]))
		}
		wantPut(t, four(names), l, four(tos))
		for i := range l {
			want := slices.Clone(tos)
			want[(from+i)%4] = names[(from+i)%4]
			wantPut(t, four(names), slices.Delete(slices.Clone(l), i, i+1), four(want))
		}
	}
	x := of(api.Le, integer("x"), of(api.Card, set("x")))
	wantPut(t, x, []api.Assign{becomes("x", of(api.All))}, of(api.Le, integer("x"), of(api.Card, of(api.All))))
	wantPut(t, x, []api.Assign{becomes("x", truth("x")), becomes("x", number(4)), becomes("x", node("x"))}, of(api.Le, number(4), of(api.Card, set("x"))))
}

// E1: of several for one name and sort the first one is put, whatever stands between them.
func TestPutTheFirst(t *testing.T) {
	x, a := integer("x"), set("a")
	wantPut(t, x, []api.Assign{becomes("x", number(1)), becomes("x", number(2))}, number(1))
	wantPut(t, x, []api.Assign{becomes("x", of(api.Empty)), becomes("y", number(7)), becomes("x", number(2)), becomes("x", of(api.True)), becomes("x", number(1)), becomes("x", number(3))}, number(2))
	wantPut(t, x, []api.Assign{becomes("x", x), becomes("x", number(2))}, x)
	wantPut(t, of(api.Lt, x, of(api.Card, a)), []api.Assign{becomes("a", number(9)), becomes("x", a), becomes("a", of(api.All)), becomes("x", number(5)), becomes("a", of(api.Empty)), becomes("x", number(6))}, of(api.Lt, number(5), of(api.Card, of(api.All))))
	var l []api.Assign
	for i := range 300 {
		l = append(l, becomes("x", number(int64(i))))
	}
	for i := range l {
		wantPut(t, x, l[i:], l[i].To)
	}
}

// E1: all at once: what is put is not looked at again.
func TestPutAllAtOnce(t *testing.T) {
	x, y, z := integer("x"), integer("y"), integer("z")
	sum := of(api.Add, x, of(api.Sub, y, z))
	wantPut(t, sum, []api.Assign{becomes("x", y), becomes("y", x)}, of(api.Add, y, of(api.Sub, x, z)))
	wantPut(t, sum, []api.Assign{becomes("x", y), becomes("y", z), becomes("z", x)}, of(api.Add, y, of(api.Sub, z, x)))
	wantPut(t, sum, []api.Assign{becomes("z", x), becomes("y", z), becomes("x", y)}, of(api.Add, y, of(api.Sub, z, x)))
	wantPut(t, sum, []api.Assign{becomes("x", of(api.Add, x, number(1)))}, of(api.Add, of(api.Add, x, number(1)), of(api.Sub, y, z)))
	wantPut(t, of(api.Add, x, x), []api.Assign{becomes("x", sum), becomes("y", number(1)), becomes("z", sum)}, of(api.Add, sum, sum))
	wantPut(t, truth("p"), []api.Assign{becomes("p", of(api.Le, x, y)), becomes("x", number(1)), becomes("y", number(2))}, of(api.Le, x, y))
	wantPut(t, of(api.In, node("n"), set("n")), []api.Assign{becomes("n", of(api.One, node("n"))), becomes("n", node("m"))}, of(api.In, node("m"), of(api.One, node("n"))))
}

// wrong is terms that are not right, full such that are too large or too deep.
func wrong() []api.Term {
	return []api.Term{{}, {Op: 29}, {Op: -1}, integer(""), integer("9"), {Op: api.True, N: 1}, of(api.Not), of(api.And, truth("p"), number(1)), {Op: api.IntVar, Name: "x", A: []api.Term{number(1)}}, {Op: api.Num, Name: "x"}}
}
func full() []api.Term {
	return []api.Term{chain(100, truth("p")), row(2000, truth("p")), chain(5000, truth("p")), loop(), row(3000, api.Term{})}
}

// E1: the error of t goes ahead of that of each To.
func TestPutErrorOfTheTerm(t *testing.T) {
	for _, bad := range wrong() {
		for _, l := range [][]api.Assign{nil, {becomes("x", number(1))}, {becomes("x", full()[0])}, {becomes("x", wrong()[0])}, {becomes("", full()[1]), becomes("p", full()[0])}} {
			wantError(t, "a term that is not right", bad, l, api.ErrSort)
			wantError(t, "a part that is not right", of(api.Not, bad), l, api.ErrSort)
		}
	}
	for _, bad := range full() {
		for _, l := range [][]api.Assign{nil, {becomes("p", of(api.True))}, {becomes("p", wrong()[0])}, {becomes("", wrong()[1]), becomes("p", full()[0])}} {
			wantError(t, "a term that is too large or too deep", bad, l, api.ErrFull)
		}
	}
}

// E1: of several To the first error is told, also of those that are not put.
func TestPutErrorOfATo(t *testing.T) {
	good := becomes("x", number(1))
	for _, name := range []string{"x", "y", "other", "", "9"} {
		for i, bad := range wrong() {
			b, f := becomes(name, bad), becomes(name, full()[i%len(full())])
			for _, x := range []api.Term{integer("x"), number(1), of(api.And), of(api.Eq, integer("x"), integer("y"))} {
				wantError(t, "one alone, not right", x, []api.Assign{b}, api.ErrSort)
				wantError(t, "one alone, full", x, []api.Assign{f}, api.ErrFull)
				wantError(t, "not right, then full", x, []api.Assign{b, f}, api.ErrSort)
				wantError(t, "full, then not right", x, []api.Assign{f, b}, api.ErrFull)
				wantError(t, "behind a good one of the name", x, []api.Assign{good, good, b}, api.ErrSort)
				wantError(t, "between good ones", x, []api.Assign{good, f, good, b, good}, api.ErrFull)
				wantError(t, "between good ones, the other way", x, []api.Assign{good, b, good, f, good}, api.ErrSort)
				wantError(t, "three", x, []api.Assign{b, f, b}, api.ErrSort)
				wantError(t, "three, the other way", x, []api.Assign{f, b, f}, api.ErrFull)
			}
		}
	}
	large := []api.Assign{becomes("p", row(1500, of(api.True)))}
	wantError(t, "what would be too large, ahead of a To that is not right", row(2, truth("p")), append(large, becomes("z", api.Term{})), api.ErrSort)
	wantError(t, "what would be too large, behind a To that is not right", row(2, truth("p")), append([]api.Assign{becomes("z", api.Term{})}, large...), api.ErrSort)
}

// E1: what comes of it may be as large as a term may be, and no larger.
func TestPutTooLarge(t *testing.T) {
	p := truth("p")
	for _, c := range []struct {
		names, others, size int
		err                 api.Errno
	}{
		{1, 0, 1999, api.OK}, {1, 0, 2000, api.ErrFull}, {1, 1, 1998, api.OK}, {1, 1, 1999, api.ErrFull}, {1, 1998, 1, api.OK}, {1, 1998, 2, api.ErrFull},
		{1999, 0, 1, api.OK}, {1999, 0, 2, api.ErrFull}, {999, 1, 2, api.OK}, {999, 2, 2, api.ErrFull}, {1000, 0, 2, api.ErrFull}, {2, 1, 999, api.OK}, {2, 2, 999, api.ErrFull}, {2, 0, 1000, api.ErrFull},
		{500, 0, 7, api.ErrFull}, {1999, 0, 2000, api.ErrFull},
	} {
		to := row(c.size-1, of(api.False))
		x, want := of(api.Or), of(api.Or)
		for range c.names {
			x.A, want.A = append(x.A, p), append(want.A, to)
		}
		for range c.others {
			x.A, want.A = append(x.A, truth("q")), append(want.A, truth("q"))
		}
		l := []api.Assign{becomes("p", to)}
		if c.err == api.OK {
			wantPut(t, x, l, want)
			continue
		}
		wantError(t, "too large", x, l, c.err)
	}
	wantPut(t, p, []api.Assign{becomes("p", row(1999, of(api.True)))}, row(1999, of(api.True)))
	wantPut(t, p, []api.Assign{becomes("q", row(1999, p)), becomes("p", of(api.True)), becomes("p", row(1999, p))}, of(api.True))
	wantPut(t, row(1999, p), []api.Assign{becomes("q", row(1999, p)), becomes("p", truth("q"))}, row(1999, truth("q")))
}

// E1: what comes of it may be as deep as a term may be, and no deeper.
func TestPutTooDeep(t *testing.T) {
	p, q := truth("p"), truth("q")
	for above := range 100 {
		for _, below := range []int{0, 1, 49, 50, 98 - above, 99 - above, 100 - above, 101 - above, 98, 99} {
			if below < 0 || below > 99 {
				continue
			}
			l := []api.Assign{becomes("p", chain(below, q))}
			if above+below <= 99 {
				wantPut(t, chain(above, p), l, chain(above+below, q))
				continue
			}
			wantError(t, "too deep", chain(above, p), l, api.ErrFull)
			wantError(t, "a part that is too deep", of(api.Or, q, chain(above-1, p), q), l, api.ErrFull)
		}
	}
	l := []api.Assign{becomes("p", chain(98, q))}
	wantPut(t, of(api.Imp, chain(98, q), p), l, of(api.Imp, chain(98, q), chain(98, q)))
	wantError(t, "one of two is too deep", of(api.Imp, p, chain(1, p)), l, api.ErrFull)
	l = []api.Assign{becomes("x", integer("y"))}
	sum := integer("x")
	for range 98 {
		sum = times(1, sum)
	}
	wantError(t, "one level is too much", of(api.Le, sum, number(0)), []api.Assign{becomes("x", times(1, integer("y")))}, api.ErrFull)
	if got, err := Put(of(api.Le, sum, number(0)), l); err != api.OK || term.Deep(got) != 100 {
		t.Error(err, term.Deep(got))
	}
}

// R1: what is handed in stays as it was, and is not kept.
func TestPutKeepsNothing(t *testing.T) {
	source := rand.New(rand.NewSource(11))
	for range 400 {
		x := grow(source, 4, 1+source.Intn(4))
		l := assigns(source)
		wasX, wasL := clone(x), cloneAll(l)
		got, err := Put(x, l)
		if !term.Same(x, wasX) || !sameAll(l, wasL) {
			t.Fatalf("what was handed in changed: %v, %v", x, l)
		}
		if err != api.OK {
			continue
		}
		want := clone(got)
		spoil(x)
		for i := range l {
			spoil(l[i].To)
			l[i] = becomes("spoilt", api.Term{Op: 99})
		}
		if !term.Same(got, want) {
			t.Fatalf("the answer changed with what was handed in: %v", wasX)
		}
	}
}

// R1: what is answered is the caller's: written over, nothing else changes, not even another part of it.
func TestPutAnswersNewMemory(t *testing.T) {
	source := rand.New(rand.NewSource(13))
	for range 400 {
		x := grow(source, 4, 1+source.Intn(4))
		l := assigns(source)
		wasX, wasL := clone(x), cloneAll(l)
		got, err := Put(x, l)
		if err != api.OK {
			continue
		}
		again, _ := Put(x, l)
		want := clone(again)
		spoil(got)
		if !term.Same(x, wasX) || !sameAll(l, wasL) || !term.Same(again, want) {
			t.Fatalf("something changed with the answer: %v", wasX)
		}
	}
	shared := []api.Term{truth("q"), of(api.Not, truth("q"))}
	pair := of(api.Or, shared...)
	l := []api.Assign{becomes("p", pair), becomes("r", pair)}
	for _, x := range []api.Term{of(api.And, truth("p"), truth("p")), of(api.And, truth("p"), truth("r")), of(api.And, pair, truth("p")), of(api.And, pair, pair)} {
		got, _ := Put(x, l)
		spoil(got.A[0])
		if !term.Same(got.A[1], of(api.Or, truth("q"), of(api.Not, truth("q")))) || !term.Same(pair, of(api.Or, truth("q"), of(api.Not, truth("q")))) {
			t.Errorf("Put(%v): two parts of the answer share memory", x)
		}
	}
	roomy := make([]api.Term, 1, 8)
	roomy[0] = truth("p")
	for _, x := range []api.Term{{Op: api.Not, A: roomy}, truth("r")} {
		got, _ := Put(x, []api.Assign{becomes("r", of(api.And, roomy...)), becomes("p", api.Term{Op: api.And, A: roomy})})
		got.A = append(got.A, of(api.True))
		if room := roomy[:2]; room[1].Op != 0 {
			t.Error("something was written behind the parts that were handed in")
		}
	}
}

// R2, R4: terms that are parts of themselves, and the same answers each time.
func TestPutEndsAndIsSteady(t *testing.T) {
	wantError(t, "a loop", loop(), nil, api.ErrFull)
	wantError(t, "a loop that is not put", truth("p"), []api.Assign{becomes("q", loop())}, api.ErrFull)
	far := chain(2000, of(api.True))
	wantError(t, "far too deep", far, []api.Assign{becomes("p", far)}, api.ErrFull)
	var many []api.Assign
	for i := range 20000 {
		many = append(many, becomes("x", number(int64(i))), becomes("p", truth("q")))
	}
	wantPut(t, of(api.And, truth("p"), of(api.Le, integer("x"), number(3))), many, of(api.And, truth("q"), of(api.Le, number(0), number(3))))
	source := rand.New(rand.NewSource(17))
	for range 100 {
		x, l := grow(source, 4, 4), assigns(source)
		first, err := Put(x, l)
		for range 3 {
			if again, e := Put(x, l); e != err || !term.Same(first, again) {
				t.Fatalf("another answer for %v, %v", x, l)
			}
		}
	}
}

// told is what is written in api beside each operation: its sort, and what it has.
func told(op int) (sort int, name, n, many bool, parts []int) {
	i, s, d, b := api.Int, api.Set, api.Node, api.Bool
	switch op {
	case api.Num:
		return i, false, true, false, nil
	case api.IntVar:
		return i, true, false, false, nil
	case api.Card:
		return i, false, false, false, []int{s}
	case api.Add, api.Sub:
		return i, false, false, false, []int{i, i}
	case api.Mul:
		return i, false, true, false, []int{i}
	case api.SetVar:
		return s, true, false, false, nil
	case api.Empty, api.All:
		return s, false, false, false, nil
	case api.One:
		return s, false, false, false, []int{d}
	case api.Union, api.Inter, api.Minus:
		return s, false, false, false, []int{s, s}
	case api.NodeVar:
		return d, true, false, false, nil
	case api.BoolVar:
		return b, true, false, false, nil
	case api.True, api.False:
		return b, false, false, false, nil
	case api.Not:
		return b, false, false, false, []int{b}
	case api.And, api.Or:
		return b, false, false, true, nil
	case api.Imp:
		return b, false, false, false, []int{b, b}
	case api.Le, api.Lt, api.Eq:
		return b, false, false, false, []int{i, i}
	case api.In:
		return b, false, false, false, []int{d, s}
	case api.Subset, api.SameSet:
		return b, false, false, false, []int{s, s}
	}
	return b, false, false, false, []int{d, d}
}

// someName is one of a few names, so that they meet.
func someName(source *rand.Rand) string {
	return []string{"a", "b", "B", "ab", "a_0", "abcdefghijklmnop"}[source.Intn(6)]
}

// grow is some right term of this sort, of at most so many levels below it.
func grow(source *rand.Rand, levels, sort int) api.Term {
	var ops []int
	for op := 1; op <= 28; op++ {
		if s, _, _, many, parts := told(op); s == sort && (levels > 0 || !many && len(parts) == 0) {
			ops = append(ops, op)
		}
	}
	op := ops[source.Intn(len(ops))]
	_, hasName, hasN, many, parts := told(op)
	t := api.Term{Op: op}
	if hasName {
		t.Name = someName(source)
	}
	if hasN {
		t.N = int64(source.Intn(11) - 5)
	}
	if many {
		parts = slices.Repeat([]int{api.Bool}, source.Intn(4))
	}
	for _, s := range parts {
		t.A = append(t.A, grow(source, levels-1, s))
	}
	return t
}

// assigns is some names that become right terms.
func assigns(source *rand.Rand) []api.Assign {
	var l []api.Assign
	for range source.Intn(12) {
		l = append(l, becomes(someName(source), grow(source, source.Intn(4), 1+source.Intn(4))))
	}
	return l
}

// putByWords is what the chapter says, for right terms, without a map.
func putByWords(t api.Term, l []api.Assign) api.Term {
	sort, hasName, _, _, _ := told(t.Op)
	if hasName {
		for _, assign := range l {
			if s, _, _, _, _ := told(assign.To.Op); s == sort && assign.Name == t.Name {
				return assign.To
			}
		}
	}
	made := api.Term{Op: t.Op, Name: t.Name, N: t.N}
	for _, part := range t.A {
		made.A = append(made.A, putByWords(part, l))
	}
	return made
}

// E1: grown terms, held against the chapter's words.
func TestPutGrown(t *testing.T) {
	source := rand.New(rand.NewSource(19))
	fit, large := 0, 0
	for i := range 6000 {
		sort := 1 + source.Intn(4)
		x, l := grow(source, source.Intn(7), sort), assigns(source)
		if i%2 == 0 && sort == api.Bool {
			x = row(1999/term.Size(x), x)
		}
		if term.Size(x) > api.MaxSize {
			continue
		}
		want := putByWords(x, l)
		if term.Size(want) > api.MaxSize {
			wantError(t, "grown too large", x, l, api.ErrFull)
			large++
			continue
		}
		wantPut(t, x, l, want)
		got, _ := Put(x, l)
		if s, err := term.Sort(got); s != sort || err != api.OK {
			t.Fatalf("Put(%v, %v) is of sort %d, %d, not %d", x, l, s, err, sort)
		}
		fit++
	}
	if fit < 1000 || large < 20 {
		t.Errorf("only %d that fit and %d that are too large", fit, large)
	}
}

// someWorld is a world with a value of each sort for each of the names.
func someWorld(source *rand.Rand) api.World {
	w := api.World{Nodes: 1 + source.Intn(5)}
	for _, name := range []string{"a", "b", "B", "ab", "a_0", "abcdefghijklmnop"} {
		s := make([]bool, w.Nodes)
		for i := range s {
			s[i] = source.Intn(2) == 0
		}
		for _, v := range []api.Value{{Sort: api.Int, N: int64(source.Intn(21) - 10)}, {Sort: api.Set, S: s}, {Sort: api.Node, N: int64(source.Intn(w.Nodes))}, {Sort: api.Bool, B: source.Intn(2) == 0}} {
			w = eval.With(w, name, v)
		}
	}
	return w
}

// What follows: a value of what was put is a value in a world with the values.
func TestPutAndValues(t *testing.T) {
	source := rand.New(rand.NewSource(23))
	for range 3000 {
		x, l, w := grow(source, source.Intn(6), 1+source.Intn(4)), assigns(source), someWorld(source)
		put, err := Put(x, l)
		if err != api.OK {
			continue
		}
		after := w
		for _, assign := range slices.Backward(l) {
			v, err := eval.Eval(assign.To, w)
			if err != api.OK {
				t.Fatal(err)
			}
			after = eval.With(after, assign.Name, v)
		}
		a, errA := eval.Eval(put, w)
		b, errB := eval.Eval(x, after)
		if errA != errB || a.Sort != b.Sort || a.N != b.N || a.B != b.B || !slices.Equal(a.S, b.S) {
			t.Fatalf("Put(%v, %v): %v, %d, not %v, %d", x, l, a, errA, b, errB)
		}
	}
}
