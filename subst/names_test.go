package subst

import (
	"math/rand"
	"slices"
	"strconv"
	"strings"
	"testing"

	"ashlar/api"
	"ashlar/term"
)

func wantFree(t *testing.T, x api.Term, name string, want bool) {
	t.Helper()
	if got := Free(x, name); got != want {
		t.Errorf("Free(%v, %q): %v", x, name, got)
	}
}

// E2: a name is free in a term that has it, of whatever sort.
func TestFree(t *testing.T) {
	sum := of(api.Add, integer("x"), times(2, integer("y")))
	wantFree(t, sum, "x", true)
	wantFree(t, sum, "y", true)
	for _, name := range []string{"z", "X", "xx", "", "x ", "9", "_", "x\x00", strings.Repeat("x", 17), strings.Repeat("x", 16)} {
		wantFree(t, sum, name, false)
	}
	for _, x := range []api.Term{integer("v"), set("v"), node("v"), truth("v")} {
		wantFree(t, x, "v", true)
		wantFree(t, x, "w", false)
		wantFree(t, x, "", false)
	}
	for _, x := range []api.Term{
		of(api.Eq, number(0), integer("v")), of(api.Eq, integer("v"), number(0)), of(api.Le, of(api.Card, set("v")), number(0)), of(api.In, node("v"), of(api.All)), of(api.In, node("w"), set("v")),
		of(api.Subset, of(api.Empty), of(api.One, node("v"))), of(api.SameNode, node("w"), node("v")), of(api.Or, of(api.True), of(api.Imp, of(api.False), truth("v"))), of(api.And, truth("v"), truth("v"), truth("w")),
		of(api.And, truth("a"), of(api.Le, integer("v"), integer("z")), of(api.In, node("v"), set("v"))), chain(99, truth("v")), of(api.And, append(slices.Repeat([]api.Term{truth("w")}, 1998), truth("v"))...),
	} {
		wantFree(t, x, "v", true)
		wantFree(t, x, "V", false)
		wantFree(t, x, "", false)
	}
	for _, x := range []api.Term{number(5), of(api.Empty), of(api.All), of(api.True), of(api.False), of(api.And), of(api.Or), of(api.Le, number(1), of(api.Card, of(api.All)))} {
		wantFree(t, x, "v", false)
		wantFree(t, x, "", false)
	}
	wantFree(t, truth("abcdefghijklmnop"), "abcdefghijklmnop", true)
	wantFree(t, truth("abcdefghijklmnop"), "abcdefghijklmno", false)
}

// E2: a term that is not right has no name.
func TestFreeOfWrongTerms(t *testing.T) {
	p := truth("p")
	for _, x := range []api.Term{
		of(api.And, p, number(1)), of(api.And, p, api.Term{}), of(api.Not, integer("p")), of(api.Not, p, p), of(api.In, set("p"), node("p")), {Op: api.BoolVar, Name: "p", N: 1}, {Op: api.BoolVar, Name: "p", A: []api.Term{p}},
		{Op: api.And, Name: "p"}, {Op: 0, Name: "p"}, {Op: 29, Name: "p"}, of(api.Or, p, truth("")), of(api.Or, p, truth("9")), chain(100, p), row(2000, p), row(2000, api.Term{Op: 29, Name: "p"}), chain(10000, p), loop(), {}, integer(""), set("9"), truth(strings.Repeat("p", 17)),
	} {
		wantFree(t, x, "p", false)
		wantFree(t, x, "", false)
		wantFree(t, x, "9", false)
		wantFree(t, x, x.Name, false)
	}
}

// E1, E2: of grown terms Free is what Names tells, and a name for which something was put is gone, unless what was put has it.
func TestFreeOfGrownTerms(t *testing.T) {
	source := rand.New(rand.NewSource(29))
	for range 1000 {
		x := grow(source, source.Intn(6), 1+source.Intn(4))
		was := clone(x)
		for _, name := range []string{"a", "b", "B", "ab", "a_0", "abcdefghijklmnop", "no", ""} {
			wantFree(t, x, name, slices.ContainsFunc(term.Names(x), func(found api.Assign) bool { return found.Name == name }))
			put, err := Put(x, []api.Assign{becomes(name, number(1)), becomes(name, of(api.Empty)), becomes(name, node("new")), becomes(name, of(api.True))})
			if err != api.OK || Free(put, name) {
				t.Fatalf("%q is still in %v", name, put)
			}
		}
		if !term.Same(x, was) {
			t.Fatalf("Free changed %v", was)
		}
	}
}

func wantFresh(t *testing.T, l []api.Term, name, want string) {
	t.Helper()
	if got := Fresh(l, name); got != want {
		t.Errorf("Fresh(%d terms, %q): %q, not %q", len(l), name, got, want)
	}
}

// made is a name, and the numbered ones that the chapter makes of it.
func made(name string) []string {
	head := name
	if len(head) > 13 {
		head = head[:13]
	}
	l := []string{name}
	for i := range 100 {
		l = append(l, head+"_"+strconv.Itoa(i))
	}
	return l
}

// termsOf is a term of each name, of the four sorts by turns.
func termsOf(names ...string) []api.Term {
	var l []api.Term
	for i, name := range names {
		l = append(l, named([]int{api.IntVar, api.SetVar, api.NodeVar, api.BoolVar}[i%4], name))
	}
	return l
}

// Names of 12 to 16 bytes.
const (
	name12 = "abcdefghijkl"
	name13 = "abcdefghijklm"
	name14 = "abcdefghijklmn"
	name15 = "abcdefghijklmno"
	name16 = "abcdefghijklmnop"
)

// E2: a name that is in none of the terms is fresh itself.
func TestFreshItself(t *testing.T) {
	for _, name := range []string{"x", "a", "Z", "x_0", "x_", "n9", name12, name13, name14, name15, name16, "abcdefghijklm_99"} {
		wantFresh(t, nil, name, name)
		wantFresh(t, []api.Term{}, name, name)
		wantFresh(t, []api.Term{number(1), of(api.And), truth("other")}, name, name)
		wantFresh(t, termsOf(made(name)[1:]...), name, name)
	}
}

// E2: what is no name is taken for x.
func TestFreshOfNoName(t *testing.T) {
	for _, name := range []string{"", "9", "_", "_x", "x y", "x-", "x\x00", "\xff", "ä", " x", strings.Repeat("a", 17), strings.Repeat("a", 100000)} {
		wantFresh(t, nil, name, "x")
		wantFresh(t, termsOf("y", "X", "x_0"), name, "x")
		wantFresh(t, termsOf("x"), name, "x_0")
		wantFresh(t, termsOf("x", "x_0", "x_1", "x_3"), name, "x_2")
		wantFresh(t, termsOf(made("x")...), name, "x_99")
	}
}

// E2: else the first 13 bytes, and the first number that is not taken.
func TestFreshNumbered(t *testing.T) {
	for _, c := range []struct{ name, want string }{
		{"x", "x_0"}, {"x_", "x__0"}, {"x_0", "x_0_0"}, {"abc", "abc_0"}, {name12, "abcdefghijkl_0"}, {name13, "abcdefghijklm_0"}, {name14, "abcdefghijklm_0"}, {name15, "abcdefghijklm_0"}, {name16, "abcdefghijklm_0"}, {"abcdefghijklm_99", "abcdefghijklm_0"}, {"abcdefghijklm_5", "abcdefghijklm_0"},
	} {
		wantFresh(t, termsOf(c.name), c.name, c.want)
		wantFresh(t, []api.Term{of(api.Or, of(api.True), of(api.In, node("n"), set(c.name)))}, c.name, c.want)
	}
	wantFresh(t, termsOf("abcdefghijklm_0"), "abcdefghijklm_0", "abcdefghijklm_1")
	wantFresh(t, termsOf("x", "x_0", "x_00", "x_01", "x_2"), "x", "x_1")
	for _, name := range []string{"x", "Node", name12, name13, name14, name16} {
		all := made(name)
		for i := 1; i < len(all); i++ {
			wantFresh(t, termsOf(all[:i]...), name, all[i])
			wantFresh(t, termsOf(append(slices.Clone(all[:i]), all[i+1:]...)...), name, all[i])
			if !term.Name(all[i]) {
				t.Errorf("%q is no name", all[i])
			}
		}
	}
}

// E2: if all of them are taken it is the last one.
func TestFreshOfAll(t *testing.T) {
	for _, name := range []string{"x", "Node", name13, name14, name16, "abcdefghijklm_7", "abcdefghijklm_99"} {
		all := made(name)
		last := all[100]
		wantFresh(t, termsOf(all...), name, last)
		slices.Reverse(all)
		wantFresh(t, termsOf(all...), name, last)
		wantFresh(t, append(termsOf(all...), truth(last), api.Term{}), name, last)
		var parts []api.Term
		for _, each := range all {
			parts = append(parts, truth(each))
		}
		wantFresh(t, []api.Term{of(api.And, parts...)}, name, last)
		wantFresh(t, []api.Term{of(api.And, parts[:50]...), of(api.Or, parts[50:]...)}, name, last)
	}
}

// E2: names of terms that are not right are not taken; those of the others are, wherever these stand.
func TestFreshOfWrongTerms(t *testing.T) {
	x := truth("x")
	for _, bad := range []api.Term{of(api.And, x, number(1)), of(api.Not, x, x), {Op: api.BoolVar, Name: "x", N: 1}, {Op: api.And, Name: "x"}, chain(100, x), row(2000, x), loop(), {}, {Name: "x"}, {Op: 29, Name: "x"}} {
		wantFresh(t, []api.Term{bad}, "x", "x")
		wantFresh(t, []api.Term{bad}, "", "x")
		wantFresh(t, []api.Term{bad, x}, "x", "x_0")
		wantFresh(t, []api.Term{x, bad, integer("x_0")}, "x", "x_1")
		wantFresh(t, []api.Term{integer("x_0"), bad, bad}, "x", "x")
	}
	wantFresh(t, []api.Term{truth(""), truth("9")}, "9", "x")
}

// R1, R4: the terms stay as they were, and the same call has the same answer; what it answers is Free in none of them.
func TestFreshOfGrownTerms(t *testing.T) {
	source := rand.New(rand.NewSource(31))
	for range 500 {
		var l, was []api.Term
		for range source.Intn(6) {
			x := grow(source, source.Intn(5), 1+source.Intn(4))
			l, was = append(l, x), append(was, clone(x))
		}
		name := someName(source)
		first := Fresh(l, name)
		want := ""
		for _, choice := range made(name) {
			if want == "" && !slices.ContainsFunc(l, func(x api.Term) bool { return Free(x, choice) }) {
				want = choice
			}
		}
		if first != want || Fresh(l, name) != want || !slices.EqualFunc(l, was, term.Same) {
			t.Fatalf("Fresh(%v, %q): %q, not %q", l, name, first, want)
		}
	}
}
