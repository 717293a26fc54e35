package eval

import (
	"math"
	"slices"
	"strconv"
	"strings"
	"testing"

	"ashlar/api"
)

// Values of each sort, and a name with one.
func integer(n int64) api.Value               { return api.Value{Sort: api.Int, N: n} }
func set(s ...bool) api.Value                 { return api.Value{Sort: api.Set, S: s} }
func node(n int64) api.Value                  { return api.Value{Sort: api.Node, N: n} }
func truth(b bool) api.Value                  { return api.Value{Sort: api.Bool, B: b} }
func with(name string, v api.Value) api.Named { return api.Named{Name: name, V: v} }

// world is one of so many nodes.
func world(nodes int, names ...api.Named) api.World { return api.World{Nodes: nodes, Names: names} }

// sameValue tells whether all fields are the same; a list without items is one, nil or not.
func sameValue(a, b api.Value) bool {
	return a.Sort == b.Sort && a.N == b.N && a.B == b.B && slices.Equal(a.S, b.S)
}

func sameNamed(a, b api.Named) bool { return a.Name == b.Name && sameValue(a.V, b.V) }

func sameWorld(a, b api.World) bool {
	return a.Nodes == b.Nodes && slices.EqualFunc(a.Names, b.Names, sameNamed)
}

// cloneWorld is w in memory of its own.
func cloneWorld(w api.World) api.World {
	w.Names = slices.Clone(w.Names)
	for i := range w.Names {
		w.Names[i].V.S = slices.Clone(w.Names[i].V.S)
	}
	return w
}

// spoil writes over all of a world that can be written over, also behind what its list shows.
func spoil(w api.World) {
	l := w.Names[:cap(w.Names)]
	for i := range l {
		s := l[i].V.S[:cap(l[i].V.S)]
		for k := range s {
			s[k] = !s[k]
		}
		l[i] = with("spoilt", integer(-99))
	}
}

// many is n names, all of which differ, with values of all sorts.
func many(n int) (l []api.Named) {
	for i := range n {
		values := []api.Value{integer(int64(i)), set(true), node(0), truth(true)}
		l = append(l, with("n"+strconv.Itoa(i), values[i%4]))
	}
	return l
}

func wantRight(t *testing.T, what string, w api.World, want bool) {
	t.Helper()
	if Right(w) != want {
		t.Errorf("%s: Right is %v: %v", what, !want, w)
	}
}

// D1: Nodes is from 1 to 64.
func TestRightNodes(t *testing.T) {
	for _, nodes := range []int{math.MinInt, -64, -1, 0, 1, 2, 3, 63, 64, 65, 66, 128, 1 << 32, 1<<32 + 1, math.MaxInt} {
		fits := nodes >= 1 && nodes <= 64
		wantRight(t, "no names", world(nodes), fits)
		wantRight(t, "an empty list of names", api.World{Nodes: nodes, Names: []api.Named{}}, fits)
		wantRight(t, "an int", world(nodes, with("x", integer(5))), fits)
	}
	wantRight(t, "the zero world", api.World{}, false)
	wantRight(t, "an empty set in no nodes", world(0, with("a", set())), false)
}

// D1: at most 64 Names, however they differ.
func TestRightManyNames(t *testing.T) {
	for _, n := range []int{0, 1, 4, 63, 64, 65, 66, 200, 100000} {
		wantRight(t, strconv.Itoa(n)+" names", world(1, many(n)...), n <= 64)
	}
	var l []api.Named
	for i := range 16 {
		name := "a" + strconv.Itoa(i)
		l = append(l, with(name, node(1)), with(name, truth(false)), with(name, integer(0)), with(name, set(false, true)))
	}
	wantRight(t, "16 names of 4 sorts", world(2, l...), true)
	wantRight(t, "16 names of 4 sorts, and one", world(2, append(l, with("b", integer(1)))...), false)
}

// D1: each is a name, wherever it stands.
func TestRightNameOfEach(t *testing.T) {
	for name, want := range map[string]bool{
		"a": true, "Z": true, "a_9": true, "abcdefghijklmnop": true, "abcdefghijklmnopq": false, "": false, "_": false, "_a": false, "9": false, "0a": false,
		"a-b": false, "a b": false, " a": false, "a ": false, "é": false, "a\x00": false, "\xff": false, strings.Repeat("a", 300): false,
	} {
		for _, v := range []api.Value{integer(0), set(true, true), node(1), truth(true)} {
			for at := range 4 {
				l := []api.Named{with("f", integer(1)), with("g", truth(true)), with("h", node(0))}
				wantRight(t, strconv.Quote(name), world(2, slices.Insert(l, at, with(name, v))...), want)
			}
		}
	}
}

// D1: a name may be there twice with two sorts, not with one, be the values the same or not.
func TestRightNameTwice(t *testing.T) {
	values := [][]api.Value{{integer(1), integer(1), integer(2)}, {set(true), set(true), set(false)}, {node(0), node(0), node(0)}, {truth(true), truth(true), truth(false)}}
	for i, first := range values {
		for k, second := range values {
			for _, v := range second[1:] {
				what := "sorts " + strconv.Itoa(i+1) + " and " + strconv.Itoa(k+1)
				wantRight(t, what, world(1, with("a", first[0]), with("a", v)), i != k)
				wantRight(t, what+", apart", world(1, with("z", integer(0)), with("a", first[0]), with("b", v), with("A", v), with("aa", v), with("a", v)), i != k)
				wantRight(t, what+", of other names", world(1, with("a", first[0]), with("A", v), with("aa", v), with("a_", v)), true)
			}
		}
	}
	wantRight(t, "once of each sort", world(1, with("a", integer(1)), with("a", set(true)), with("a", node(0)), with("a", truth(true))), true)
	wantRight(t, "once of each sort, and one more", world(1, with("a", integer(1)), with("a", set(true)), with("a", node(0)), with("a", truth(true)), with("a", node(0))), false)
	l := many(64)
	l[63] = l[0]
	wantRight(t, "the last of 64 as the first", world(1, l...), false)
}

// D1: a value is of one of the four sorts.
func TestRightSortOfValues(t *testing.T) {
	for _, sort := range []int{math.MinInt, -1, 0, 5, 6, 28, 256, 1<<32 + 1, math.MaxInt} {
		for _, v := range []api.Value{{Sort: sort}, {Sort: sort, N: 1}, {Sort: sort, B: true}, {Sort: sort, S: []bool{true, true}}} {
			wantRight(t, "no sort", world(2, with("a", v)), false)
			wantRight(t, "no sort, behind", world(2, with("b", integer(1)), with("a", v)), false)
		}
	}
	for _, n := range []int64{0, 1, -1, math.MaxInt64, math.MinInt64} {
		wantRight(t, "an int", world(1, with("a", integer(n))), true)
	}
	wantRight(t, "true", world(1, with("a", truth(true))), true)
	wantRight(t, "false", world(1, with("a", truth(false))), true)
}

// D1: a set has as many bools as there are nodes; a node is one of them.
func TestRightSetsAndNodes(t *testing.T) {
	for _, nodes := range []int{1, 2, 3, 63, 64} {
		for _, n := range []int{0, 1, nodes - 1, nodes, nodes + 1, 2 * nodes, 65, 100000} {
			for _, in := range []bool{false, true} {
				wantRight(t, "a set", world(nodes, with("a", set(slices.Repeat([]bool{in}, n)...))), n == nodes)
			}
		}
		for _, n := range []int64{math.MinInt64, -1 << 32, -64, -1, 0, 1, int64(nodes) - 1, int64(nodes), int64(nodes) + 1, 64, 65, 1 << 32, math.MaxInt64} {
			wantRight(t, "a node", world(nodes, with("a", node(n))), 0 <= n && n < int64(nodes))
		}
	}
}

// D1: what a sort has no meaning for is zero; S may be nil or empty then.
func TestRightOtherFields(t *testing.T) {
	for i, c := range []struct {
		v    api.Value
		want bool
	}{
		{api.Value{Sort: api.Int, N: 1, B: true}, false}, {api.Value{Sort: api.Int, N: 1, S: []bool{false, false}}, false}, {api.Value{Sort: api.Int, S: []bool{false}}, false}, {api.Value{Sort: api.Int, N: 1, S: []bool{}}, true},
		{api.Value{Sort: api.Bool, N: 1}, false}, {api.Value{Sort: api.Bool, B: true, N: -1}, false}, {api.Value{Sort: api.Bool, B: true, S: []bool{true, true}}, false}, {api.Value{Sort: api.Bool, S: []bool{false}}, false}, {api.Value{Sort: api.Bool, S: []bool{}}, true},
		{api.Value{Sort: api.Node, N: 1, B: true}, false}, {api.Value{Sort: api.Node, N: 1, S: []bool{false, false}}, false}, {api.Value{Sort: api.Node, S: []bool{false}}, false}, {api.Value{Sort: api.Node, N: 1, S: []bool{}}, true},
		{api.Value{Sort: api.Set, S: []bool{true, false}, N: 1}, false}, {api.Value{Sort: api.Set, S: []bool{true, false}, N: -1}, false}, {api.Value{Sort: api.Set, S: []bool{true, false}, B: true}, false}, {api.Value{Sort: api.Set, S: []bool{false, false}}, true},
		{api.Value{}, false},
	} {
		wantRight(t, strconv.Itoa(i), world(2, with("a", c.v)), c.want)
		wantRight(t, strconv.Itoa(i)+" behind others", world(2, with("b", c.v), with("c", truth(true)), with("a", c.v)), c.want)
	}
}

func wantGet(t *testing.T, w api.World, name string, sort int, want api.Value, there bool) {
	t.Helper()
	if v, ok := Get(w, name, sort); ok != there || !sameValue(v, want) {
		t.Errorf("Get(%v, %q, %d): %v, %v, not %v, %v", w, name, sort, v, ok, want, there)
	}
}

// D1: Get goes by name and sort, both of them.
func TestGet(t *testing.T) {
	w := world(2, with("a", integer(7)), with("b", set(true, false)), with("a", set(false, true)), with("n", node(1)), with("p", truth(true)), with("a", truth(false)), with("m", integer(math.MinInt64)))
	for _, named := range w.Names {
		wantGet(t, w, named.Name, named.V.Sort, named.V, true)
	}
	for _, c := range []struct {
		name string
		sort int
	}{{"a", api.Node}, {"b", api.Int}, {"b", api.Bool}, {"n", api.Int}, {"p", api.Set}, {"A", api.Int}, {"aa", api.Int}, {"", api.Int}, {"", 0}, {"a", 0}, {"a", 5}, {"a", -1}, {"zz", api.Set}} {
		wantGet(t, w, c.name, c.sort, api.Value{}, false)
	}
	wantGet(t, world(1), "a", api.Int, api.Value{}, false)
	wantGet(t, world(1, many(64)...), "n63", api.Bool, truth(true), true)
	for sort := range 6 {
		wantGet(t, api.World{}, "", sort, api.Value{}, false)
	}
}

// D1: of a world that is not right Get finds the first such one, as it is.
func TestGetOfWrongWorlds(t *testing.T) {
	odd := api.Value{Sort: api.Node, N: -8, B: true, S: []bool{true}}
	w := world(-3, with("b", integer(0)), with("a", integer(1)), with("a", integer(2)), with("a", odd), with("a", node(0)), with("", truth(true)), with("", truth(false)), with("_", api.Value{Sort: 77, N: 5}), with("a", api.Value{Sort: 0, B: true}), with("s", set()))
	wantRight(t, "a world that is not right", w, false)
	wantGet(t, w, "a", api.Int, integer(1), true)
	wantGet(t, w, "a", api.Node, odd, true)
	wantGet(t, w, "", api.Bool, truth(true), true)
	wantGet(t, w, "_", 77, api.Value{Sort: 77, N: 5}, true)
	wantGet(t, w, "a", 0, api.Value{B: true}, true)
	wantGet(t, w, "s", api.Set, set(), true)
	wantGet(t, w, "b", api.Node, api.Value{}, false)
	wantGet(t, world(1, many(1000)...), "n999", api.Bool, truth(true), true)
	wantGet(t, world(65, with("a", integer(4))), "a", api.Int, integer(4), true)
}

func wantWith(t *testing.T, w api.World, name string, v api.Value, want api.World) {
	t.Helper()
	before, given := cloneWorld(w), copiedByTest(v)
	got := With(w, name, v)
	if !sameWorld(got, want) {
		t.Errorf("With(%v, %q, %v): %v, not %v", w, name, v, got, want)
	}
	if found, ok := Get(got, name, v.Sort); !ok || !sameValue(found, v) {
		t.Errorf("With(%v, %q, %v): Get tells %v, %v", w, name, v, found, ok)
	}
	if !sameWorld(w, before) || !sameValue(v, given) {
		t.Errorf("With(%v, %q, %v): what was handed in changed", before, name, given)
	}
}

func copiedByTest(v api.Value) api.Value {
	v.S = slices.Clone(v.S)
	return v
}

// D1: With puts the value in the place of the one of its name and sort, else behind all.
func TestWith(t *testing.T) {
	a, s, n, p := with("a", integer(1)), with("a", set(true, false)), with("n", node(1)), with("p", truth(true))
	w := world(2, a, s, n, p)
	wantWith(t, w, "a", integer(5), world(2, with("a", integer(5)), s, n, p))
	wantWith(t, w, "a", set(false, false), world(2, a, with("a", set(false, false)), n, p))
	wantWith(t, w, "n", node(0), world(2, a, s, with("n", node(0)), p))
	wantWith(t, w, "p", truth(false), world(2, a, s, n, with("p", truth(false))))
	wantWith(t, w, "p", truth(true), w)
	wantWith(t, w, "a", truth(false), world(2, a, s, n, p, with("a", truth(false))))
	wantWith(t, w, "a", node(1), world(2, a, s, n, p, with("a", node(1))))
	wantWith(t, w, "p", integer(0), world(2, a, s, n, p, with("p", integer(0))))
	wantWith(t, w, "new", set(true, true), world(2, a, s, n, p, with("new", set(true, true))))
	wantWith(t, w, "A", integer(5), world(2, a, s, n, p, with("A", integer(5))))
	wantWith(t, world(3), "x", integer(5), world(3, with("x", integer(5))))
	wantWith(t, world(1, a), "a", integer(5), world(1, with("a", integer(5))))
	l := many(64)
	wantWith(t, world(1, l...), "n63", truth(false), world(1, append(slices.Clone(l[:63]), with("n63", truth(false)))...))
	wantWith(t, world(1, l...), "n64", truth(false), world(1, append(slices.Clone(l), with("n64", truth(false)))...))
	wantRight(t, "63 and one", With(world(1, l[:63]...), "n64", truth(false)), true)
	wantRight(t, "64 and one", With(world(1, l...), "n64", truth(false)), false)
}

// D1: With of worlds and values that are not right does just the same, with the first of several.
func TestWithOfWrongWorlds(t *testing.T) {
	odd := api.Value{Sort: 9, N: 3, B: true, S: []bool{true, false, true}}
	wantWith(t, api.World{}, "", api.Value{}, world(0, with("", api.Value{})))
	wantWith(t, world(-1, with("_", integer(1))), "_", odd, world(-1, with("_", integer(1)), with("_", odd)))
	wantWith(t, world(99, with("_", odd), with("_", integer(1))), "_", api.Value{Sort: 9}, world(99, with("_", api.Value{Sort: 9}), with("_", integer(1))))
	wantWith(t, world(2, with("a", integer(1)), with("a", integer(2)), with("a", integer(3))), "a", integer(4), world(2, with("a", integer(4)), with("a", integer(2)), with("a", integer(3))))
	wantWith(t, world(2), "a", set(true), world(2, with("a", set(true))))
	l := many(300)
	wantWith(t, world(1, l...), "x", integer(1), world(1, append(slices.Clone(l), with("x", integer(1)))...))
}

// R1: what With answers is the caller's alone, and what was handed in is not kept.
func TestWithSharesNothing(t *testing.T) {
	for _, c := range []struct {
		name string
		v    api.Value
	}{{"a", set(false, false)}, {"b", set(true, true)}, {"new", set(true, true)}, {"x", integer(3)}, {"new", integer(3)}} {
		fresh := func() api.World {
			l := make([]api.Named, 0, 8)
			return world(2, append(l, with("a", set(true, false)), with("x", integer(5)), with("b", set(false, true)))...)
		}
		w, v := fresh(), copiedByTest(c.v)
		got := With(w, c.name, v)
		want := cloneWorld(got)
		spoil(w)
		for i := range v.S {
			v.S[i] = !v.S[i]
		}
		if !sameWorld(got, want) {
			t.Errorf("With %v of %s keeps what it was handed: %v", c.v, c.name, got)
		}
		w, v = fresh(), copiedByTest(c.v)
		got = With(w, c.name, v)
		other := With(w, c.name, v)
		spoil(got)
		if !sameWorld(w, fresh()) || !sameValue(v, c.v) || !sameWorld(other, want) {
			t.Errorf("With %v of %s: its answer is not the caller's alone", c.v, c.name)
		}
		for _, named := range w.Names[:cap(w.Names)][len(w.Names):] {
			if named.Name != "" {
				t.Errorf("With %v of %s writes behind the names that it was handed", c.v, c.name)
			}
		}
	}
}

// R1: also if sets that are handed in share memory, those of the answer do not.
func TestWithOfSharedSets(t *testing.T) {
	s := []bool{true, false}
	got := With(world(2, with("a", set(s...)), with("b", set(s...))), "c", set(s...))
	got.Names[0].V.S[0] = false
	want := world(2, with("a", set(false, false)), with("b", set(true, false)), with("c", set(true, false)))
	if !sameWorld(got, want) || !s[0] {
		t.Errorf("two sets of one answer share memory: %v", got)
	}
}

// R1: what Get answers is the caller's alone, and no call changes what it is handed.
func TestGetAndRightShareNothing(t *testing.T) {
	w := world(2, with("a", set(true, false)), with("x", integer(5)), with("b", set(false, true)))
	before := cloneWorld(w)
	Right(w)
	v, _ := Get(w, "b", api.Set)
	for i := range v.S {
		v.S[i] = !v.S[i]
	}
	if !sameWorld(w, before) {
		t.Errorf("the world changed: %v", w)
	}
	v, _ = Get(w, "a", api.Set)
	spoil(w)
	if !sameValue(v, set(true, false)) {
		t.Errorf("the value changed: %v", v)
	}
}
