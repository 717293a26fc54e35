package eval

import (
	"math"
	"math/big"
	"math/rand"
	"slices"
	"strconv"
	"testing"

	"ashlar/api"
	"ashlar/term"
)

const (
	most  = math.MaxInt64
	least = math.MinInt64
)

// of makes a term of parts, named one of a name, times a Mul, number a Num.
func of(op int, parts ...api.Term) api.Term { return api.Term{Op: op, A: parts} }
func named(op int, name string) api.Term    { return api.Term{Op: op, Name: name} }
func times(n int64, part api.Term) api.Term { return api.Term{Op: api.Mul, N: n, A: []api.Term{part}} }
func number(n int64) api.Term               { return api.Term{Op: api.Num, N: n} }

// Terms without a value: lost ones have a name that no world here has, large ones an int that is none.
func lost(sort int) api.Term {
	return []api.Term{1: named(api.IntVar, "zz"), 2: named(api.SetVar, "zz"), 3: named(api.NodeVar, "zz"), 4: named(api.BoolVar, "zz")}[sort]
}
func large() api.Term     { return of(api.Add, number(most), number(1)) }
func largeBool() api.Term { return of(api.Eq, large(), number(0)) }

func boolean(b bool) api.Term {
	if b {
		return of(api.True)
	}
	return of(api.False)
}

func wantEval(t *testing.T, x api.Term, w api.World, want api.Value, err api.Errno) {
	t.Helper()
	if v, e := Eval(x, w); e != err || !sameValue(v, want) {
		t.Errorf("Eval(%v): %v, %d, not %v, %d", x, v, e, want, err)
	}
}

// wantNone asks for an error, and nothing else.
func wantNone(t *testing.T, x api.Term, w api.World, err api.Errno) {
	t.Helper()
	wantEval(t, x, w, api.Value{}, err)
}

// three is a world of three nodes, with names of each sort; x is one of all four.
func three() api.World {
	return world(3, with("a", set(true, true, false)), with("b", set(false, true, true)), with("none", set(false, false, false)), with("n", node(0)), with("m", node(2)),
		with("i", integer(5)), with("k", integer(-7)), with("yes", truth(true)), with("no", truth(false)),
		with("x", truth(true)), with("x", node(1)), with("x", integer(42)), with("x", set(false, false, true)))
}

// D2: ints.
func TestEvalInts(t *testing.T) {
	a, b, i, k := named(api.SetVar, "a"), named(api.SetVar, "b"), named(api.IntVar, "i"), named(api.IntVar, "k")
	for _, c := range []struct {
		t    api.Term
		want int64
	}{
		{number(0), 0}, {number(most), most}, {number(least), least}, {i, 5}, {k, -7}, {named(api.IntVar, "x"), 42},
		{of(api.Card, of(api.All)), 3}, {of(api.Card, of(api.Empty)), 0}, {of(api.Card, a), 2}, {of(api.Card, of(api.Inter, a, b)), 1}, {of(api.Card, of(api.Union, a, b)), 3},
		{of(api.Add, i, k), -2}, {of(api.Sub, i, k), 12}, {of(api.Sub, k, i), -12}, {times(-3, i), -15}, {times(0, i), 0}, {times(2, times(3, k)), -42},
		{of(api.Sub, of(api.Sub, i, number(1)), number(1)), 3}, {of(api.Sub, i, of(api.Sub, number(1), number(1))), 5},
	} {
		wantEval(t, c.t, three(), integer(c.want), api.OK)
	}
}

// D2: sums, differences and products at both ends of int64, and one beyond.
func TestEvalEndsOfInts(t *testing.T) {
	w := world(1, with("most", integer(most)), with("least", integer(least)))
	top, bottom := named(api.IntVar, "most"), named(api.IntVar, "least")
	for _, c := range []struct {
		t    api.Term
		want int64
	}{
		{of(api.Add, number(most-1), number(1)), most}, {of(api.Add, number(least+1), number(-1)), least}, {of(api.Add, top, bottom), -1}, {of(api.Add, top, number(0)), most},
		{of(api.Sub, number(-1), bottom), most}, {of(api.Sub, bottom, number(0)), least}, {of(api.Sub, number(-1), top), least}, {of(api.Sub, bottom, bottom), 0},
		{times(1, bottom), least}, {times(-1, top), -most}, {times(least, number(1)), least}, {times(most, number(-1)), -most}, {times(1<<32, number(-1<<31)), least}, {times(0, bottom), 0}, {times(least, number(0)), 0},
		{times(3, number(most/3)), most / 3 * 3}, {times(2, number(least/2)), least},
	} {
		wantEval(t, c.t, w, integer(c.want), api.OK)
	}
	for _, x := range []api.Term{
		of(api.Add, top, number(1)), of(api.Add, number(1), top), of(api.Add, bottom, number(-1)), of(api.Add, top, top), of(api.Add, bottom, bottom),
		of(api.Sub, number(0), bottom), of(api.Sub, bottom, number(1)), of(api.Sub, top, number(-1)), of(api.Sub, number(-2), top), of(api.Sub, top, bottom),
		times(-1, bottom), times(least, number(-1)), times(2, number(most/2+1)), times(1<<32, number(1<<31)), times(1<<32, number(1<<32)), times(most, top), times(least, bottom), times(2, number(least/2-1)),
	} {
		wantNone(t, x, w, api.ErrRange)
		wantNone(t, of(api.Sub, x, x), w, api.ErrRange)
		wantNone(t, times(0, x), w, api.ErrRange)
		wantNone(t, of(api.Eq, x, x), w, api.ErrRange)
		wantNone(t, of(api.Or, of(api.True), of(api.Le, number(0), x)), w, api.ErrRange)
	}
	wantNone(t, of(api.Sub, of(api.Add, top, number(1)), number(1)), w, api.ErrRange)
}

// D2: sets; of each node, is it in it?
func TestEvalSets(t *testing.T) {
	a, b, n, m := named(api.SetVar, "a"), named(api.SetVar, "b"), named(api.NodeVar, "n"), named(api.NodeVar, "m")
	for _, c := range []struct {
		t    api.Term
		want []bool
	}{
		{a, []bool{true, true, false}}, {named(api.SetVar, "x"), []bool{false, false, true}}, {of(api.Empty), []bool{false, false, false}}, {of(api.All), []bool{true, true, true}},
		{of(api.One, n), []bool{true, false, false}}, {of(api.One, m), []bool{false, false, true}}, {of(api.One, named(api.NodeVar, "x")), []bool{false, true, false}},
		{of(api.Union, a, b), []bool{true, true, true}}, {of(api.Union, of(api.One, n), of(api.One, m)), []bool{true, false, true}}, {of(api.Inter, a, b), []bool{false, true, false}},
		{of(api.Minus, a, b), []bool{true, false, false}}, {of(api.Minus, b, a), []bool{false, false, true}}, {of(api.Minus, of(api.All), a), []bool{false, false, true}}, {of(api.Minus, of(api.Empty), a), []bool{false, false, false}},
		{of(api.Minus, a, of(api.Minus, a, b)), []bool{false, true, false}}, {of(api.Union, a, a), []bool{true, true, false}}, {of(api.Inter, a, of(api.Empty)), []bool{false, false, false}},
	} {
		wantEval(t, c.t, three(), set(c.want...), api.OK)
	}
	for _, name := range []string{"n", "m", "x"} {
		want, _ := Get(three(), name, api.Node)
		wantEval(t, named(api.NodeVar, name), three(), want, api.OK)
	}
}

// D2: bools, and what two parts have to do with each other.
func TestEvalBools(t *testing.T) {
	a, b, n, m := named(api.SetVar, "a"), named(api.SetVar, "b"), named(api.NodeVar, "n"), named(api.NodeVar, "m")
	none, x := named(api.SetVar, "none"), named(api.NodeVar, "x")
	for _, c := range []struct {
		t    api.Term
		want bool
	}{
		{of(api.True), true}, {of(api.False), false}, {named(api.BoolVar, "yes"), true}, {named(api.BoolVar, "no"), false}, {named(api.BoolVar, "x"), true},
		{of(api.Le, number(4), number(5)), true}, {of(api.Le, number(5), number(5)), true}, {of(api.Le, number(6), number(5)), false}, {of(api.Le, number(least), number(most)), true}, {of(api.Le, number(most), number(least)), false},
		{of(api.Lt, number(4), number(5)), true}, {of(api.Lt, number(5), number(5)), false}, {of(api.Lt, number(6), number(5)), false}, {of(api.Lt, number(least), number(most)), true},
		{of(api.Eq, number(4), number(5)), false}, {of(api.Eq, number(5), number(5)), true}, {of(api.Eq, number(6), number(5)), false}, {of(api.Eq, number(least), number(least)), true}, {of(api.Eq, number(-5), number(5)), false},
		{of(api.In, n, a), true}, {of(api.In, m, a), false}, {of(api.In, m, b), true}, {of(api.In, x, a), true}, {of(api.In, x, of(api.One, x)), true}, {of(api.In, n, of(api.One, x)), false}, {of(api.In, n, none), false},
		{of(api.Subset, a, b), false}, {of(api.Subset, b, a), false}, {of(api.Subset, a, a), true}, {of(api.Subset, of(api.Inter, a, b), a), true}, {of(api.Subset, a, of(api.Inter, a, b)), false}, {of(api.Subset, none, none), true}, {of(api.Subset, of(api.All), a), false}, {of(api.Subset, a, of(api.All)), true},
		{of(api.SameSet, a, b), false}, {of(api.SameSet, a, a), true}, {of(api.SameSet, none, of(api.Empty)), true}, {of(api.SameSet, of(api.Inter, a, b), a), false}, {of(api.SameSet, a, of(api.Inter, a, b)), false}, {of(api.SameSet, of(api.Union, a, b), of(api.All)), true},
		{of(api.SameNode, n, n), true}, {of(api.SameNode, n, m), false}, {of(api.SameNode, m, n), false},
	} {
		wantEval(t, c.t, three(), truth(c.want), api.OK)
		wantEval(t, of(api.Not, c.t), three(), truth(!c.want), api.OK)
		wantEval(t, of(api.Not, of(api.Not, c.t)), three(), truth(c.want), api.OK)
	}
}

// D2: And, Or and Imp of all bools, and of none.
func TestEvalOfAllBools(t *testing.T) {
	for n := range 6 {
		for mask := range 1 << n {
			var parts []api.Term
			for i := range n {
				parts = append(parts, boolean(mask>>i&1 == 1))
			}
			wantEval(t, of(api.And, parts...), three(), truth(mask == 1<<n-1), api.OK)
			wantEval(t, of(api.Or, parts...), three(), truth(mask != 0), api.OK)
			if n == 2 {
				wantEval(t, of(api.Imp, parts...), three(), truth(mask != 1), api.OK)
			}
		}
	}
	wantEval(t, api.Term{Op: api.And, A: []api.Term{}}, three(), truth(true), api.OK)
	wantEval(t, api.Term{Op: api.Or, A: []api.Term{}}, three(), truth(false), api.OK)
}

// D2: ErrName, where a name has no value of the sort, whatever it has of others.
func TestEvalOfNoName(t *testing.T) {
	for op, names := range map[int][]string{
		api.IntVar: {"a", "n", "yes", "zz", "I", "ii"}, api.SetVar: {"i", "n", "yes", "zz", "A", "aa"}, api.NodeVar: {"i", "a", "yes", "zz", "N"}, api.BoolVar: {"i", "a", "n", "zz", "Yes"},
	} {
		for _, name := range names {
			wantNone(t, named(op, name), three(), api.ErrName)
		}
		wantNone(t, named(op, "a"), world(1), api.ErrName)
	}
	for _, x := range []api.Term{of(api.Card, lost(2)), of(api.One, lost(3)), of(api.Not, lost(4)), times(0, lost(1)), of(api.Subset, of(api.Empty), lost(2)), of(api.SameNode, lost(3), lost(3))} {
		wantNone(t, x, three(), api.ErrName)
	}
}

// D2: a part without a value leaves the whole without one, also beside parts that decide.
func TestEvalLeavesNothingOut(t *testing.T) {
	yes, no := of(api.True), of(api.False)
	a, n, i := named(api.SetVar, "a"), named(api.NodeVar, "n"), number(1)
	for _, c := range []struct {
		bad api.Term
		err api.Errno
	}{{lost(4), api.ErrName}, {largeBool(), api.ErrRange}, {of(api.Not, lost(4)), api.ErrName}} {
		for _, x := range []api.Term{
			of(api.And, no, c.bad), of(api.And, yes, c.bad), of(api.And, c.bad, no), of(api.And, c.bad), of(api.And, no, no, no, c.bad), of(api.And, no, c.bad, no),
			of(api.Or, yes, c.bad), of(api.Or, no, c.bad), of(api.Or, c.bad, yes), of(api.Or, c.bad), of(api.Or, yes, yes, yes, c.bad), of(api.Or, yes, c.bad, yes),
			of(api.Imp, no, c.bad), of(api.Imp, yes, c.bad), of(api.Imp, c.bad, yes), of(api.Imp, c.bad, no),
			of(api.Or, yes, of(api.And, no, of(api.Imp, no, of(api.Not, c.bad)))),
		} {
			wantNone(t, x, three(), c.err)
		}
	}
	for _, op := range []int{api.Union, api.Inter, api.Minus, api.Subset, api.SameSet} {
		for _, s := range []api.Term{a, of(api.Empty), of(api.All)} {
			wantNone(t, of(op, s, lost(2)), three(), api.ErrName)
			wantNone(t, of(op, lost(2), s), three(), api.ErrName)
		}
	}
	for _, op := range []int{api.Add, api.Sub, api.Le, api.Lt, api.Eq} {
		wantNone(t, of(op, i, lost(1)), three(), api.ErrName)
		wantNone(t, of(op, lost(1), i), three(), api.ErrName)
	}
	for _, x := range []api.Term{of(api.In, n, lost(2)), of(api.In, lost(3), a), of(api.In, lost(3), of(api.Empty)), of(api.In, lost(3), of(api.All)), of(api.SameNode, n, lost(3)), of(api.SameNode, lost(3), n)} {
		wantNone(t, x, three(), api.ErrName)
	}
}

// D2: of several parts without a value the first one from the left, and parts ahead of the whole.
func TestEvalFirstErrorFromTheLeft(t *testing.T) {
	for _, op := range []int{api.Add, api.Sub, api.Le, api.Lt, api.Eq} {
		wantNone(t, of(op, lost(1), large()), three(), api.ErrName)
		wantNone(t, of(op, large(), lost(1)), three(), api.ErrRange)
		wantNone(t, of(op, times(2, of(api.Sub, number(1), lost(1))), large()), three(), api.ErrName)
		wantNone(t, of(op, of(api.Add, number(most), times(1, number(1))), lost(1)), three(), api.ErrRange)
	}
	for _, op := range []int{api.And, api.Or, api.Imp} {
		wantNone(t, of(op, lost(4), largeBool()), three(), api.ErrName)
		wantNone(t, of(op, largeBool(), lost(4)), three(), api.ErrRange)
		wantNone(t, of(op, of(api.Not, of(api.And, of(api.False), lost(4))), largeBool()), three(), api.ErrName)
	}
	for _, op := range []int{api.And, api.Or} {
		for _, part := range []api.Term{of(api.True), of(api.False)} {
			wantNone(t, of(op, part, part, lost(4), part, largeBool()), three(), api.ErrName)
			wantNone(t, of(op, part, part, largeBool(), part, lost(4)), three(), api.ErrRange)
		}
	}
	wantNone(t, of(api.Add, number(most), of(api.Add, number(1), lost(1))), three(), api.ErrName)
	wantNone(t, of(api.Add, number(most), of(api.Card, of(api.Union, of(api.All), lost(2)))), three(), api.ErrName)
	wantNone(t, of(api.Add, number(most), of(api.Card, of(api.All))), three(), api.ErrRange)
	wantNone(t, of(api.Sub, number(least), lost(1)), three(), api.ErrName)
	wantNone(t, times(2, of(api.Add, number(most), lost(1))), three(), api.ErrName)
}

// wrongWorlds are some that are not right, each for a reason of its own.
func wrongWorlds() []api.World {
	return []api.World{
		{}, world(-1), world(65), world(1, many(65)...), world(1, with("_", integer(1))), world(1, with("x", integer(1)), with("x", integer(1))),
		world(2, with("a", set(true))), world(2, with("n", node(2))), world(2, with("n", node(-1))), world(2, with("x", api.Value{Sort: 5})), world(2, with("p", api.Value{Sort: api.Bool, N: 1})),
	}
}

// chain is part below n terms of Not.
func chain(n int, part api.Term) api.Term {
	for range n {
		part = of(api.Not, part)
	}
	return part
}

// D2: the error of Sort goes ahead of ErrArg, and that ahead of all others.
func TestEvalErrorsInOrder(t *testing.T) {
	self := []api.Term{{Op: api.And}}
	self[0].A = self
	wrong := []api.Term{{}, of(29), of(-1), of(api.Card, number(1)), named(api.IntVar, "_"), of(api.Not), of(api.And, lost(4), large()), {Op: api.True, N: 1}, of(api.And, of(api.Not, large()))}
	full := []api.Term{chain(100, of(api.True)), chain(100, number(1)), of(api.And, slices.Repeat([]api.Term{lost(4)}, 2000)...), of(api.And, slices.Repeat([]api.Term{{}}, 2000)...), self[0]}
	valueless := []api.Term{lost(1), lost(2), lost(3), lost(4), large(), largeBool(), of(api.One, lost(3))}
	fine := []api.Term{number(1), of(api.All), of(api.And), of(api.Empty), of(api.False)}
	for _, w := range append(wrongWorlds(), three()) {
		for _, x := range wrong {
			wantNone(t, x, w, api.ErrSort)
		}
		for _, x := range full {
			wantNone(t, x, w, api.ErrFull)
		}
	}
	for _, w := range wrongWorlds() {
		for _, x := range append(valueless, fine...) {
			wantNone(t, x, w, api.ErrArg)
		}
	}
}

// D2: within the limits there is a value: of the largest worlds, and of the largest terms.
func TestEvalAtTheLimits(t *testing.T) {
	for _, nodes := range []int{1, 2, 63, 64} {
		all := slices.Repeat([]bool{true}, nodes)
		last := slices.Repeat([]bool{false}, nodes)
		last[nodes-1] = true
		w := world(nodes, with("a", set(last...)), with("n", node(int64(nodes)-1)), with("first", node(0)))
		a, n := named(api.SetVar, "a"), named(api.NodeVar, "n")
		wantEval(t, of(api.Card, of(api.All)), w, integer(int64(nodes)), api.OK)
		wantEval(t, of(api.All), w, set(all...), api.OK)
		wantEval(t, of(api.Empty), w, set(make([]bool, nodes)...), api.OK)
		wantEval(t, of(api.One, n), w, set(last...), api.OK)
		wantEval(t, of(api.In, n, a), w, truth(true), api.OK)
		wantEval(t, of(api.In, named(api.NodeVar, "first"), a), w, truth(nodes == 1), api.OK)
		wantEval(t, of(api.Card, of(api.Minus, of(api.All), a)), w, integer(int64(nodes)-1), api.OK)
		wantEval(t, of(api.SameSet, of(api.Union, of(api.Minus, of(api.All), a), of(api.One, n)), of(api.All)), w, truth(true), api.OK)
	}
	wantEval(t, named(api.IntVar, "n60"), world(1, many(64)...), integer(60), api.OK)
	wantEval(t, chain(99, of(api.True)), three(), truth(false), api.OK)
	wantEval(t, of(api.Or, append(slices.Repeat([]api.Term{of(api.False)}, 1998), of(api.True))...), three(), truth(true), api.OK)
	wantNone(t, of(api.Or, append(slices.Repeat([]api.Term{of(api.True)}, 1998), lost(4))...), three(), api.ErrName)
}

// parts is the sorts of what each operation has, by its Op, apart from the program's own table; And and Or stand apart.
var parts = [][]int{
	api.Num: {}, api.IntVar: {}, api.Card: {2}, api.Add: {1, 1}, api.Sub: {1, 1}, api.Mul: {1}, api.SetVar: {}, api.Empty: {}, api.All: {}, api.One: {3}, api.Union: {2, 2}, api.Inter: {2, 2}, api.Minus: {2, 2},
	api.NodeVar: {}, api.BoolVar: {}, api.True: {}, api.False: {}, api.Not: {4}, api.And: {}, api.Or: {}, api.Imp: {4, 4}, api.Le: {1, 1}, api.Lt: {1, 1}, api.Eq: {1, 1}, api.In: {3, 2}, api.Subset: {2, 2}, api.SameSet: {2, 2}, api.SameNode: {3, 3},
}

func sortOf(op int) int {
	switch {
	case op <= api.Mul:
		return api.Int
	case op <= api.Minus:
		return api.Set
	case op == api.NodeVar:
		return api.Node
	}
	return api.Bool
}

// grow is some right term of this sort, of at most so many levels below it, with names that a grown world may have.
func grow(source *rand.Rand, levels, sort int) api.Term {
	var ops []int
	for op := 1; op <= api.SameNode; op++ {
		if sortOf(op) == sort && (levels > 0 || len(parts[op]) == 0) {
			ops = append(ops, op)
		}
	}
	t := api.Term{Op: ops[source.Intn(len(ops))]}
	sorts := parts[t.Op]
	switch t.Op {
	case api.IntVar, api.SetVar, api.NodeVar, api.BoolVar:
		t.Name = someName(source)
	case api.Num, api.Mul:
		t.N = someInt(source)
	case api.And, api.Or:
		sorts = slices.Repeat([]int{api.Bool}, source.Intn(4)*min(levels, 1))
	}
	for _, s := range sorts {
		t.A = append(t.A, grow(source, levels-1, s))
	}
	return t
}

func someName(source *rand.Rand) string {
	if source.Intn(20) == 0 {
		return "zz"
	}
	return string(rune('a' + source.Intn(4)))
}

func someInt(source *rand.Rand) int64 {
	return []int64{0, 1, -1, 2, -3, 64, 1 << 31, 1 << 62, most, most - 1, least, least + 1}[source.Intn(12)]
}

// growWorld is a right one, in which the four names have values of all sorts.
func growWorld(source *rand.Rand) api.World {
	w := world([]int{1, 2, 3, 5, 64}[source.Intn(5)])
	for i := range 4 {
		var s []bool
		for range w.Nodes {
			s = append(s, source.Intn(2) == 0)
		}
		name := string(rune('a' + i))
		w.Names = append(w.Names, with(name, set(s...)), with(name, integer(someInt(source)%100)), with(name, node(source.Int63n(int64(w.Nodes)))), with(name, truth(source.Intn(2) == 0)))
	}
	source.Shuffle(len(w.Names), func(i, k int) { w.Names[i], w.Names[k] = w.Names[k], w.Names[i] })
	return w
}

// meaning is what a term is, by numbers without ends and lists of nodes that are in a set.
type meaning struct {
	n   *big.Int
	in  map[int]bool
	b   bool
	err api.Errno
}

func intMeaning(n *big.Int) meaning {
	if !n.IsInt64() {
		return meaning{err: api.ErrRange}
	}
	return meaning{n: n}
}

// mean says what the chapter's words say of a right term in a right world.
func mean(t api.Term, w api.World) meaning {
	var m []meaning
	for _, part := range t.A {
		m = append(m, mean(part, w))
	}
	for _, x := range m {
		if x.err != api.OK {
			return meaning{err: x.err}
		}
	}
	switch t.Op {
	case api.IntVar, api.SetVar, api.NodeVar, api.BoolVar:
		return meanName(t, w)
	case api.Empty, api.All, api.One, api.Union, api.Inter, api.Minus:
		return meanSet(t.Op, m, w.Nodes)
	case api.Num:
		return intMeaning(big.NewInt(t.N))
	case api.Card:
		return intMeaning(big.NewInt(int64(len(m[0].in))))
	case api.Add:
		return intMeaning(new(big.Int).Add(m[0].n, m[1].n))
	case api.Sub:
		return intMeaning(new(big.Int).Sub(m[0].n, m[1].n))
	case api.Mul:
		return intMeaning(new(big.Int).Mul(big.NewInt(t.N), m[0].n))
	}
	return meaning{b: meanBool(t.Op, m)}
}

func meanName(t api.Term, w api.World) meaning {
	for _, named := range w.Names {
		if named.Name != t.Name || named.V.Sort != sortOf(t.Op) {
			continue
		}
		in := map[int]bool{}
		for i, is := range named.V.S {
			if is {
				in[i] = true
			}
		}
		return meaning{n: big.NewInt(named.V.N), in: in, b: named.V.B}
	}
	return meaning{err: api.ErrName}
}

func meanSet(op int, m []meaning, nodes int) meaning {
	in := map[int]bool{}
	for i := range nodes {
		var is bool
		switch op {
		case api.All:
			is = true
		case api.One:
			is = m[0].n.Int64() == int64(i)
		case api.Union:
			is = m[0].in[i] || m[1].in[i]
		case api.Inter:
			is = m[0].in[i] && m[1].in[i]
		case api.Minus:
			is = m[0].in[i] && !m[1].in[i]
		}
		if is {
			in[i] = true
		}
	}
	return meaning{in: in}
}

func meanBool(op int, m []meaning) bool {
	count := map[bool]int{}
	for _, x := range m {
		count[x.b]++
	}
	switch op {
	case api.True:
		return true
	case api.Not:
		return !m[0].b
	case api.And:
		return count[false] == 0
	case api.Or:
		return count[true] != 0
	case api.Imp:
		return !m[0].b || m[1].b
	case api.Le:
		return m[0].n.Cmp(m[1].n) <= 0
	case api.Lt:
		return m[0].n.Cmp(m[1].n) < 0
	case api.Eq, api.SameNode:
		return m[0].n.Cmp(m[1].n) == 0
	case api.In:
		return m[1].in[int(m[0].n.Int64())]
	case api.Subset, api.SameSet:
		both := 0
		for i := range m[0].in {
			if m[1].in[i] {
				both++
			}
		}
		return both == len(m[0].in) && (op == api.Subset || both == len(m[1].in))
	}
	return false
}

// told is a meaning as a value of this sort.
func told(m meaning, sort, nodes int) api.Value {
	v := api.Value{Sort: sort}
	switch sort {
	case api.Int, api.Node:
		v.N = m.n.Int64()
	case api.Set:
		for i := range nodes {
			v.S = append(v.S, m.in[i])
		}
	case api.Bool:
		v.B = m.b
	}
	return v
}

// D2: grown terms are what the chapter's words say, by another way of reckoning. R1: and nothing that was handed in changes.
func TestEvalOfGrownTerms(t *testing.T) {
	source := rand.New(rand.NewSource(11))
	seen := map[api.Errno]int{}
	for range 20000 {
		sort := 1 + source.Intn(4)
		x, w := grow(source, source.Intn(6), sort), growWorld(source)
		if term.Size(x) > api.MaxSize {
			continue
		}
		before, beforeWorld := cloneTerm(x), cloneWorld(w)
		m := mean(x, w)
		seen[m.err]++
		if m.err != api.OK {
			wantNone(t, x, w, m.err)
		} else {
			wantEval(t, x, w, told(m, sort, w.Nodes), api.OK)
		}
		wantRight(t, "grown", w, true)
		if !term.Same(x, before) || !sameWorld(w, beforeWorld) {
			t.Fatalf("%v or %v changed", before, beforeWorld)
		}
	}
	for _, err := range []api.Errno{api.OK, api.ErrName, api.ErrRange} {
		if seen[err] < 500 {
			t.Errorf("only %d grown terms with %v", seen[err], err)
		}
	}
}

// cloneTerm is t in memory of its own.
func cloneTerm(t api.Term) api.Term {
	t.A = slices.Clone(t.A)
	for i := range t.A {
		t.A[i] = cloneTerm(t.A[i])
	}
	return t
}

// What follows: names that do not stand in a term do not matter, nor does the order of names.
func TestEvalByNamesOfTheTermAlone(t *testing.T) {
	source := rand.New(rand.NewSource(13))
	for range 2000 {
		x, w := grow(source, 4, 1+source.Intn(4)), growWorld(source)
		want, err := Eval(x, w)
		few := world(w.Nodes)
		for _, name := range term.Names(x) {
			sort := sortOf(name.To.Op)
			if v, ok := Get(w, name.Name, sort); ok {
				few = With(few, name.Name, v)
			}
		}
		slices.Reverse(few.Names)
		wantEval(t, x, few, want, err)
		for i := range 8 {
			few = With(few, "other"+strconv.Itoa(i), integer(int64(i)))
		}
		wantEval(t, x, few, want, err)
	}
}

// R1: a set that Eval answers is the caller's alone, and no set of the world is kept.
func TestEvalSharesNothing(t *testing.T) {
	a, b := named(api.SetVar, "a"), named(api.SetVar, "b")
	for _, x := range []api.Term{a, of(api.Union, a, b), of(api.Inter, a, a), of(api.Minus, b, a), of(api.Union, a, of(api.Empty)), of(api.Inter, of(api.All), a), of(api.Union, a, a)} {
		w := three()
		v, _ := Eval(x, w)
		want := copiedByTest(v)
		s := v.S[:cap(v.S)]
		for i := range s {
			s[i] = !s[i]
		}
		if !sameWorld(w, three()) {
			t.Errorf("%v: writing over the answer changed the world", x)
		}
		wantEval(t, x, w, want, api.OK)
		v, _ = Eval(x, w)
		spoil(w)
		if !sameValue(v, want) {
			t.Errorf("%v: writing over the world changed the answer", x)
		}
	}
}

// R1: a call that answers an error has changed nothing either. R4: the same calls have the same answers.
func TestEvalOfErrorsChangesNothing(t *testing.T) {
	for _, x := range []api.Term{of(api.Subset, of(api.Union, named(api.SetVar, "a"), named(api.SetVar, "b")), lost(2)), of(api.And, of(api.False), largeBool()), of(api.Card, number(1))} {
		w, before := three(), cloneTerm(x)
		_, err := Eval(x, w)
		_, again := Eval(x, w)
		if err == api.OK || err != again || !sameWorld(w, three()) || !term.Same(x, before) {
			t.Errorf("%v: %v, %v, %v", x, err, again, w)
		}
	}
}
