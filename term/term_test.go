package term

import (
	"math"
	"math/rand"
	"slices"
	"strings"
	"testing"

	"ashlar/api"
)

// of makes a term of parts, named one of a name, times a Mul, number a Num; repeat is n times the same part.
func of(op int, parts ...api.Term) api.Term { return api.Term{Op: op, A: parts} }
func named(op int, name string) api.Term    { return api.Term{Op: op, Name: name} }
func times(n int64, part api.Term) api.Term { return api.Term{Op: api.Mul, N: n, A: []api.Term{part}} }
func number(n int64) api.Term               { return api.Term{Op: api.Num, N: n} }
func repeat(n int, part api.Term) (l []api.Term) {
	for range n {
		l = append(l, part)
	}
	return l
}

// chain is part below n terms of Not.
func chain(n int, part api.Term) api.Term {
	for range n {
		part = of(api.Not, part)
	}
	return part
}

// double is a term of n levels above part, of which each has the one below it twice, in the same memory.
func double(n int, part api.Term) api.Term {
	for range n {
		part = of(api.And, part, part)
	}
	return part
}

// operations says of each operation, by its Op, its sort and what it has, apart from the program's own table.
var operations = []string{
	1: "int; N", 2: "int; Name", 3: "int; set", 4: "int; int int", 5: "int; int int", 6: "int; N int",
	7: "set; Name", 8: "set;", 9: "set;", 10: "set; node", 11: "set; set set", 12: "set; set set", 13: "set; set set",
	14: "node; Name",
	15: "bool; Name", 16: "bool;", 17: "bool;", 18: "bool; bool", 19: "bool; bools", 20: "bool; bools", 21: "bool; bool bool",
	22: "bool; int int", 23: "bool; int int", 24: "bool; int int", 25: "bool; node set", 26: "bool; set set", 27: "bool; set set", 28: "bool; node node",
}

var sorts = map[string]int{"int": 1, "set": 2, "node": 3, "bool": 4}

// some is a right term of this sort, of one part.
func some(sort int) api.Term {
	return []api.Term{1: number(5), 2: of(api.Empty), 3: named(api.NodeVar, "n"), 4: of(api.True)}[sort]
}

// told is what the table above says of an operation.
func told(op int) (sort int, hasName, hasN, many bool, parts []int) {
	first, rest, _ := strings.Cut(operations[op], ";")
	for _, word := range strings.Fields(rest) {
		switch word {
		case "N":
			hasN = true
		case "Name":
			hasName = true
		case "bools":
			many = true
		default:
			parts = append(parts, sorts[word])
		}
	}
	return sorts[first], hasName, hasN, many, parts
}

// ordinary is a right term of this operation.
func ordinary(op int) api.Term {
	_, hasName, hasN, _, parts := told(op)
	t := api.Term{Op: op}
	if hasName {
		t.Name = "abc"
	}
	if hasN {
		t.N = -7
	}
	for _, s := range parts {
		t.A = append(t.A, some(s))
	}
	return t
}

func wantSort(t *testing.T, what string, x api.Term, sort int, err api.Errno) {
	t.Helper()
	if s, e := Sort(x); s != sort || e != err {
		t.Errorf("%s: Sort is %d, %v, not %d, %v", what, s, e, sort, err)
	}
}

func wrong(t *testing.T, what string, x api.Term) {
	t.Helper()
	wantSort(t, what, x, 0, api.ErrSort)
	if l := Names(x); len(l) != 0 {
		t.Errorf("%s: it is not right, and has names: %v", what, l)
	}
	wantSort(t, what+", as a part", of(api.And, of(api.True), of(api.Not, of(api.Or, x))), 0, api.ErrSort)
}

// C1: a name has 1 to 16 bytes.
func TestNameLength(t *testing.T) {
	for n := range 40 {
		for _, s := range []string{strings.Repeat("a", n), strings.Repeat("Z", n), ("x" + strings.Repeat("_9", 20))[:n]} {
			if got := Name(s); got != (n >= 1 && n <= 16) {
				t.Errorf("Name of %d bytes, %q: %v", n, s, got)
			}
		}
	}
}

// C1: of all 256 bytes a letter may be first, a letter, a digit and _ behind it.
func TestNameBytes(t *testing.T) {
	const letters = "ABCDEFGHIJKLMNOPQRSTUVWXYZabcdefghijklmnopqrstuvwxyz"
	for c := range 256 {
		b := string([]byte{byte(c)})
		first := strings.Contains(letters, b)
		behind := first || strings.Contains("0123456789_", b)
		for s, want := range map[string]bool{b: first, b + "a": first, "a" + b: behind, "a" + b + "z": behind, "abcdefghijklmno" + b: behind, "abcdefghijklmnop" + b: false} {
			if got := Name(s); got != want {
				t.Errorf("Name(%q): %v", s, got)
			}
		}
	}
	for _, s := range []string{"_", "9", "_a", "0a", " a", "a ", "a b", "a-b", "é", "aé", "a\x00", "\xff", "a.b", "日本"} {
		if Name(s) {
			t.Errorf("Name(%q)", s)
		}
	}
}

// C1: each operation is of its sort with what it has.
func TestSortOfEachOperation(t *testing.T) {
	for op := 1; op <= 28; op++ {
		sort, hasName, hasN, _, _ := told(op)
		x := ordinary(op)
		wantSort(t, operations[op], x, sort, api.OK)
		if len(x.A) == 0 {
			x.A = []api.Term{}
			wantSort(t, operations[op]+" of an empty list", x, sort, api.OK)
		}
		for _, n := range []int64{1, -1, math.MaxInt64, math.MinInt64} {
			x := ordinary(op)
			x.N = n
			if hasN {
				wantSort(t, operations[op], x, sort, api.OK)
			} else {
				wrong(t, operations[op]+" with a number", x)
			}
		}
		for _, name := range []string{"a", "_", "9a", "a-b", "\x00", "abcdefghijklmnop", "abcdefghijklmnopq"} {
			x := ordinary(op)
			x.Name = name
			if hasName && Name(name) {
				wantSort(t, operations[op], x, sort, api.OK)
			} else {
				wrong(t, operations[op]+" with the name "+name, x)
			}
		}
		x = ordinary(op)
		x.Name, x.N = "", 0
		if hasName {
			wrong(t, operations[op]+" without a name", x)
		} else {
			wantSort(t, operations[op]+" with 0", x, sort, api.OK)
		}
	}
}

// C1: Op is one of 1 to 28, whatever else there is.
func TestSortOfNoOperation(t *testing.T) {
	for _, op := range []int{0, -1, -28, 29, 30, 56, 255, 256, 257, 1 << 16, 1<<32 + 1, math.MinInt, math.MinInt + 1, math.MaxInt} {
		for _, x := range []api.Term{of(op), named(op, "a"), {Op: op, N: 1}, of(op, of(api.True)), of(op, some(1), some(1))} {
			wrong(t, "no operation", x)
		}
	}
}

// C1: as many parts as it says, none of another sort, none that is not right.
func TestSortOfParts(t *testing.T) {
	for op := 1; op <= 28; op++ {
		_, _, _, many, parts := told(op)
		what := operations[op]
		if many {
			continue
		}
		for extra := 1; extra <= 4; extra++ {
			x := ordinary(op)
			x.A = append(x.A, some(extra))
			wrong(t, what+" with one too many", x)
			x.A = append(x.A, some(extra))
			wrong(t, what+" with two too many", x)
		}
		x := ordinary(op)
		x.A = append(x.A, api.Term{})
		wrong(t, what+" with one too many that is none", x)
		for i, sort := range parts {
			x := ordinary(op)
			x.A = slices.Delete(x.A, i, i+1)
			wrong(t, what+" with one too few", x)
			for other := 1; other <= 4; other++ {
				if other != sort {
					x := ordinary(op)
					x.A[i] = some(other)
					wrong(t, what+" with a part of another sort", x)
				}
			}
			for _, bad := range []api.Term{{}, of(29), named(api.IntVar, "_"), of(api.Card), {Op: api.Empty, N: 1}, of(api.Not), named(api.NodeVar, "")} {
				x := ordinary(op)
				x.A[i] = bad
				wrong(t, what+" with a part that is not right", x)
			}
		}
		if len(parts) > 0 {
			x := ordinary(op)
			x.A = nil
			wrong(t, what+" of nothing", x)
		}
	}
}

// C1: And and Or are of any number of bools, of none too.
func TestSortOfMany(t *testing.T) {
	for _, op := range []int{api.And, api.Or} {
		for _, n := range []int{0, 1, 2, 3, 17, 1998, 1999} {
			wantSort(t, "many", of(op, repeat(n, some(4))...), api.Bool, api.OK)
		}
		wantSort(t, "an empty list", api.Term{Op: op, A: []api.Term{}}, api.Bool, api.OK)
		for _, n := range []int{1, 2, 3, 5} {
			for i := range n {
				for _, bad := range []api.Term{some(1), some(2), some(3), {}, of(29), of(api.Not), named(api.BoolVar, "")} {
					x := of(op, repeat(n, some(4))...)
					x.A[i] = bad
					wrong(t, "And or Or of what is no bool", x)
				}
			}
		}
	}
}

// C1: the example of the chapter, and terms of several operations.
func TestSortOfTerms(t *testing.T) {
	a, b, n, x, p := named(api.SetVar, "a"), named(api.SetVar, "b"), named(api.NodeVar, "n"), named(api.IntVar, "x"), named(api.BoolVar, "p")
	for i, c := range []struct {
		t    api.Term
		sort int
	}{
		{of(api.Le, number(1), of(api.Card, a)), api.Bool},
		{of(api.Imp, of(api.In, n, of(api.Minus, of(api.All), of(api.One, n))), of(api.False)), api.Bool},
		{of(api.Sub, times(-3, x), of(api.Card, of(api.Union, a, of(api.Inter, b, of(api.Empty))))), api.Int},
		{of(api.Or, p, of(api.SameNode, n, n), of(api.Subset, a, b), of(api.SameSet, a, b), of(api.Eq, x, x), of(api.Lt, x, number(0))), api.Bool},
		{of(api.Minus, of(api.One, n), a), api.Set}, {n, api.Node}, {x, api.Int}, {p, api.Bool}, {number(math.MinInt64), api.Int},
	} {
		wantSort(t, "term "+string(rune('a'+i)), c.t, c.sort, api.OK)
	}
	wrong(t, "a name of another sort", of(api.Le, number(1), of(api.Card, x)))
}

// C1: Size counts all terms, to one beyond MaxSize.
func TestSize(t *testing.T) {
	for i, c := range []struct {
		t    api.Term
		want int
	}{
		{api.Term{}, 1}, {some(4), 1}, {of(api.Le, number(1), of(api.Card, named(api.SetVar, "a"))), 4},
		{of(api.And, repeat(1998, some(4))...), 1999}, {of(api.And, repeat(1999, some(4))...), 2000}, {of(api.And, repeat(2000, some(4))...), 2001},
		{of(api.And, repeat(2001, some(4))...), 2001}, {of(77, repeat(500000, api.Term{Op: -1})...), 2001},
		{chain(1999, some(4)), 2000}, {chain(2000, some(4)), 2001}, {chain(2001, some(4)), 2001}, {chain(300000, some(4)), 2001},
		{double(3, some(4)), 15}, {double(9, some(4)), 1023}, {of(api.And, double(9, some(4)), double(8, some(4)), chain(464, some(4))), 2000},
		{of(api.And, double(9, some(4)), double(8, some(4)), chain(465, some(4))), 2001}, {double(10, some(4)), 2001}, {double(60, some(4)), 2001}, {double(5000, some(4)), 2001},
		{of(api.And, of(api.And, repeat(1997, some(4))...), some(4)), 2000}, {of(api.And, some(4), of(api.And, repeat(1998, some(4))...)), 2001},
	} {
		if got := Size(c.t); got != c.want {
			t.Errorf("%d: Size is %d, not %d", i, got, c.want)
		}
	}
}

// C1: Deep goes by the deepest part, wherever it stands, to one beyond MaxDepth, however large the term is.
func TestDeep(t *testing.T) {
	wide := of(api.Or, repeat(3000, of(api.Or, some(4), some(4)))...)
	for i, c := range []struct {
		t    api.Term
		want int
	}{
		{api.Term{}, 1}, {some(4), 1}, {api.Term{A: []api.Term{}}, 1}, {api.Term{Op: 99, A: []api.Term{{}}}, 2},
		{of(api.And, some(4), chain(5, some(4)), chain(3, some(4))), 7}, {of(api.And, chain(5, some(4)), some(4)), 7}, {of(api.And, some(4), chain(5, some(4))), 7},
		{chain(98, some(4)), 99}, {chain(99, some(4)), 100}, {chain(100, some(4)), 101}, {chain(101, some(4)), 101}, {chain(300000, some(4)), 101},
		{wide, 3}, {of(api.And, wide, chain(50, some(4))), 52}, {of(api.And, chain(50, some(4)), wide), 52}, {of(api.And, wide, chain(98, some(4))), 100},
		{of(api.And, wide, chain(99, some(4))), 101}, {of(api.And, wide, chain(90, wide)), 94}, {of(api.And, wide, wide, chain(90, wide), wide), 94},
		{of(api.And, wide, wide, wide, chain(96, wide), wide), 100}, {of(api.And, wide, wide, wide, chain(97, wide), wide), 101},
		{double(40, some(4)), 41}, {double(99, some(4)), 100}, {double(100, some(4)), 101}, {double(2000, some(4)), 101},
	} {
		if got := Deep(c.t); got != c.want {
			t.Errorf("%d: Deep is %d, not %d", i, got, c.want)
		}
	}
}

// C1: just within both limits it has its sort, just beyond one ErrFull.
func TestSortAtTheLimits(t *testing.T) {
	wantSort(t, "MaxDepth", chain(99, some(4)), api.Bool, api.OK)
	wantSort(t, "one deeper", chain(100, some(4)), 0, api.ErrFull)
	wantSort(t, "MaxSize", of(api.And, repeat(1999, some(4))...), api.Bool, api.OK)
	wantSort(t, "one larger", of(api.And, repeat(2000, some(4))...), 0, api.ErrFull)
	wantSort(t, "both", of(api.And, append(repeat(1900, some(4)), chain(98, some(4)))...), api.Bool, api.OK)
	wantSort(t, "both and one larger", of(api.And, append(repeat(1901, some(4)), chain(98, some(4)))...), 0, api.ErrFull)
	wantSort(t, "both and one deeper", of(api.And, append(repeat(1899, some(4)), chain(99, some(4)))...), 0, api.ErrFull)
	wantSort(t, "far beyond both", double(5000, some(4)), 0, api.ErrFull)
	wantSort(t, "far too large", of(api.Or, repeat(400000, some(4))...), 0, api.ErrFull)
	wantSort(t, "far too deep", chain(400000, some(4)), 0, api.ErrFull)
}

// C1: ErrFull goes ahead of ErrSort, and a limit that is kept does not.
func TestSortTooLargeAndNotRight(t *testing.T) {
	for _, bad := range []api.Term{{}, of(29), some(1), named(api.BoolVar, "_"), of(api.Not), {Op: api.True, N: 1}} {
		for _, x := range []api.Term{
			chain(100, bad), of(api.And, append(repeat(2000, some(4)), bad)...), of(api.And, append([]api.Term{bad}, repeat(2000, some(4))...)...),
			of(api.And, bad, chain(99, some(4))), of(api.And, chain(99, some(4)), bad), {Op: 29, A: repeat(2000, bad)}, {Op: api.And, Name: "a", A: repeat(2000, some(4))}, double(70, bad),
		} {
			wantSort(t, "too large and not right", x, 0, api.ErrFull)
			if l := Names(x); len(l) != 0 {
				t.Errorf("names of what is too large: %v", l)
			}
		}
		wantSort(t, "just deep enough and not right", chain(98, bad), 0, api.ErrSort)
		wantSort(t, "just small enough and not right", of(api.And, append(repeat(1990, some(4)), bad)...), 0, api.ErrSort)
	}
}

// C1, C2: rows of parts that begin at one place and do not end there are not taken for each other.
func TestRowsThatBeginAtOnePlace(t *testing.T) {
	row, other := []api.Term{some(4), chain(5, some(4))}, []api.Term{some(4), chain(5, of(api.False))}
	wide := of(api.Or, repeat(3000, some(4))...)
	a := of(api.And, wide, of(api.Or, row[:1]...), of(api.Or, row...))
	b := of(api.And, wide, of(api.Or, other[:1]...), of(api.Or, other...))
	if Deep(a) != 8 || !Same(a, clone(a)) || Same(a, b) {
		t.Error(Deep(a), Same(a, clone(a)), Same(a, b))
	}
}

// loop is a term that is a part of itself.
func loop(parts int) api.Term {
	l := make([]api.Term, parts)
	for i := range l {
		l[i] = api.Term{Op: api.And, A: l}
	}
	return l[0]
}

// R2: all calls end, also of parts in shared memory and of terms that are parts of themselves.
func TestAllEnd(t *testing.T) {
	for _, parts := range []int{1, 2, 50} {
		x := loop(parts)
		if Size(x) != 2001 || Deep(x) != 101 || Same(x, x) || Same(x, loop(parts)) || len(Names(x)) != 0 {
			t.Errorf("a term that is %d parts of itself", parts)
		}
		wantSort(t, "a part of itself", x, 0, api.ErrFull)
	}
	sum, last := named(api.IntVar, "x"), named(api.IntVar, "y")
	for range 97 {
		sum, last = of(api.Add, sum, last), sum
	}
	if Deep(sum) != 98 || Size(sum) != 2001 || !Same(sum, sum) {
		t.Error("sums of the two below", Deep(sum), Size(sum))
	}
	hall := of(api.Or, repeat(100000, of(api.Or, repeat(100000, some(4))...))...)
	if Deep(hall) != 3 || !Same(hall, hall) {
		t.Error("a row of rows", Deep(hall))
	}
}

// C2: terms are the same just if all of them is.
func TestSame(t *testing.T) {
	list := []api.Term{
		{}, {N: 1}, {Name: "a"}, {Op: 29}, number(1), number(-1), number(0), named(api.IntVar, "x"), named(api.SetVar, "x"), named(api.IntVar, "X"), named(api.IntVar, "xx"), named(api.IntVar, ""),
		of(api.And), of(api.Or), of(api.And, some(4)), of(api.And, some(4), some(4)), of(api.And, of(api.And, some(4)), some(4)), of(api.And, some(4), of(api.And, some(4))),
		of(api.And, some(4), of(api.False)), of(api.And, of(api.False), some(4)), of(api.And, of(api.And), some(4)),
		times(2, some(1)), times(3, some(1)), times(2, number(6)), {Op: api.Mul, N: 2, Name: "a", A: []api.Term{some(1)}}, times(math.MinInt64, some(1)), times(math.MaxInt64, some(1)),
		chain(99, some(4)), chain(99, of(api.False)), chain(98, some(4)), of(api.And, repeat(5000, some(4))...), of(api.And, repeat(5001, some(4))...),
		of(api.And, append(repeat(4999, some(4)), of(api.False))...), of(api.And, append([]api.Term{of(api.False)}, repeat(4999, some(4))...)...),
		double(99, some(4)), double(99, of(api.False)), double(98, some(4)), of(api.And, double(98, some(4)), double(98, of(api.False))), of(api.And, double(98, some(4)), double(97, some(4))),
	}
	for i, a := range list {
		for k, b := range list {
			if got := Same(a, b); got != (i == k) {
				t.Errorf("Same of %d and %d: %v", i, k, got)
			}
		}
	}
	if !Same(of(api.And), api.Term{Op: api.And, A: []api.Term{}}) {
		t.Error("no items are no items")
	}
	if !Same(double(14, some(4)), clone(double(14, some(4)))) || !Same(double(60, some(4)), double(60, some(4))) {
		t.Error("where parts stand does not matter")
	}
	if Same(of(api.And, double(60, some(4)), of(api.True)), of(api.And, double(60, some(4)), of(api.False))) {
		t.Error("what comes behind shared parts matters")
	}
}

// C2: what is too deep is the same as nothing, itself too.
func TestSameOfTooDeep(t *testing.T) {
	for _, n := range []int{100, 101, 500, 100000} {
		for _, x := range []api.Term{chain(n, some(4)), of(api.And, some(4), chain(n, some(4))), double(n, some(4)), of(api.And, append(repeat(3000, some(4)), chain(n, some(4)))...)} {
			if Same(x, x) || Same(x, chain(99, some(4))) || Same(chain(99, some(4)), x) {
				t.Errorf("below %d levels", n)
			}
		}
	}
	wide := of(api.Or, repeat(3000, of(api.Or, some(4)))...)
	if fit, deep := of(api.And, wide, wide, chain(96, wide)), of(api.And, wide, wide, chain(97, wide)); !Same(fit, fit) || Same(deep, deep) {
		t.Error("parts that stand twice, at first not too deep")
	}
}

// C2: one change anywhere in a term makes another one of it.
func TestSameOfOneChange(t *testing.T) {
	source := rand.New(rand.NewSource(3))
	for range 300 {
		x := grow(source, 1+source.Intn(4), 4)
		if !Same(x, clone(x)) {
			t.Fatalf("not the same: %v", x)
		}
		for at := range Size(x) {
			for kind := range 4 {
				y, left := clone(x), at
				change(&y, &left, kind)
				if Same(x, y) || Same(y, x) {
					t.Fatalf("the same, changed at %d by %d: %v", at, kind, x)
				}
			}
		}
	}
}

// change changes the term at this place, counted from the left.
func change(t *api.Term, at *int, kind int) {
	if *at == 0 {
		switch kind {
		case 0:
			t.Op++
		case 1:
			t.Name += "a"
		case 2:
			t.N--
		case 3:
			t.A = append(t.A, api.Term{})
		}
	}
	*at--
	if *at >= 0 {
		for i := range t.A {
			change(&t.A[i], at, kind)
		}
	}
}

// clone is t in memory of its own.
func clone(t api.Term) api.Term {
	t.A = slices.Clone(t.A)
	for i := range t.A {
		t.A[i] = clone(t.A[i])
	}
	return t
}

// grow is some right term of this sort, of at most so many levels below it.
func grow(source *rand.Rand, levels, sort int) api.Term {
	var ops []int
	for op := 1; op <= 28; op++ {
		if s, _, _, many, parts := told(op); s == sort && (levels > 0 || !many && len(parts) == 0) {
			ops = append(ops, op)
		}
	}
	op := ops[source.Intn(len(ops))]
	_, hasName, hasN, many, parts := told(op)
	t := api.Term{Op: op}
	if hasName {
		t.Name = []string{"a", "b", "B", "ab", "a_", "a0", "abcdefghijklmnop", "z"}[source.Intn(8)]
	}
	if hasN {
		t.N = source.Int63() - source.Int63()
	}
	if many {
		parts = slices.Repeat([]int{4}, source.Intn(4))
	}
	for _, s := range parts {
		t.A = append(t.A, grow(source, levels-1, s))
	}
	return t
}

// wantNames holds names against pairs of a name and an Op.
func wantNames(t *testing.T, x api.Term, want []api.Term) {
	t.Helper()
	got := Names(x)
	fits := len(got) == len(want)
	for i := range min(len(got), len(want)) {
		to := got[i].To
		fits = fits && got[i].Name == want[i].Name && to.Op == want[i].Op && to.Name == want[i].Name && to.N == 0 && len(to.A) == 0
	}
	if !fits {
		t.Errorf("Names(%v): %v, not %v", x, got, want)
	}
}

// C2: names rise, in whatever order they stand, each once, and of one name by Op.
func TestNames(t *testing.T) {
	set, node, x, p := named(api.SetVar, "a"), named(api.NodeVar, "a"), named(api.IntVar, "a"), named(api.BoolVar, "a")
	wantNames(t, of(api.Le, number(1), of(api.Card, set)), []api.Term{set})
	wantNames(t, of(api.And), nil)
	wantNames(t, of(api.Le, number(1), of(api.Card, of(api.All))), nil)
	wantNames(t, x, []api.Term{x})
	wantNames(t, set, []api.Term{set})
	wantNames(t, node, []api.Term{node})
	wantNames(t, p, []api.Term{p})
	wantNames(t, of(api.Or, p, of(api.In, node, set), of(api.Lt, x, x), of(api.Not, p)), []api.Term{x, set, node, p})
	for _, l := range orders([]api.Term{named(api.BoolVar, "Z"), named(api.BoolVar, "a"), named(api.BoolVar, "a0"), named(api.BoolVar, "aB"), named(api.BoolVar, "a_"), named(api.BoolVar, "ab")}) {
		wantNames(t, of(api.And, append(l, l[0], of(api.Not, l[5]))...), []api.Term{named(api.BoolVar, "Z"), named(api.BoolVar, "a"), named(api.BoolVar, "a0"), named(api.BoolVar, "aB"), named(api.BoolVar, "a_"), named(api.BoolVar, "ab")})
	}
	for _, l := range orders([]api.Term{p, of(api.In, node, of(api.Empty)), of(api.Subset, set, set), of(api.Eq, x, number(0)), named(api.BoolVar, "B"), of(api.Le, named(api.IntVar, "b"), x)}) {
		wantNames(t, of(api.Or, l...), []api.Term{named(api.BoolVar, "B"), x, set, node, p, named(api.IntVar, "b")})
	}
}

// orders is all orders of a list.
func orders(l []api.Term) (all [][]api.Term) {
	if len(l) == 0 {
		return [][]api.Term{nil}
	}
	for i := range l {
		for _, rest := range orders(slices.Concat(l[:i], l[i+1:])) {
			all = append(all, append([]api.Term{l[i]}, rest...))
		}
	}
	return all
}

// C2: of the largest right term all names; of one that is not right none, wherever the names stand.
func TestNamesAtTheLimits(t *testing.T) {
	var parts []api.Term
	for i := range 1999 {
		parts = append(parts, named(api.BoolVar, "p"+string([]byte{byte('0' + 9 - i/200), byte('a' + (i/10)%20), byte('9' - i%10)})))
	}
	l := Names(of(api.And, parts...))
	if len(l) != 1999 || !slices.IsSortedFunc(l, func(a, b api.Assign) int { return strings.Compare(a.Name, b.Name) }) {
		t.Errorf("%d names of 1999", len(l))
	}
	p := named(api.BoolVar, "p")
	wantNames(t, chain(99, p), []api.Term{p})
	wantNames(t, chain(100, p), nil)
	wantNames(t, of(api.And, append(parts, p)...), nil)
	wantNames(t, of(api.And, p, some(1)), nil)
	wantNames(t, of(api.And, p, named(api.BoolVar, "9")), nil)
	wantNames(t, named(0, "p"), nil)
	wantNames(t, of(api.Not, named(api.IntVar, "p")), nil)
}

// What follows: what is right is made of what is right; grown terms are, and their names are those that stand in them.
func TestGrownTerms(t *testing.T) {
	source := rand.New(rand.NewSource(5))
	for range 3000 {
		sort := 1 + source.Intn(4)
		x := grow(source, source.Intn(7), sort)
		size, deep, names := measured(x)
		if size > api.MaxSize {
			continue
		}
		wantSort(t, "grown", x, sort, api.OK)
		if Size(x) != size || Deep(x) != deep {
			t.Fatalf("Size %d, not %d; Deep %d, not %d", Size(x), size, Deep(x), deep)
		}
		for _, part := range x.A {
			if _, err := Sort(part); err != api.OK {
				t.Fatalf("a part that is not right: %v", part)
			}
		}
		var want []api.Term
		for op := range 29 {
			for _, name := range names[op] {
				if i, ok := slices.BinarySearchFunc(want, named(op, name), byName); !ok {
					want = slices.Insert(want, i, named(op, name))
				}
			}
		}
		wantNames(t, x, want)
	}
}

func byName(a, b api.Term) int {
	if c := strings.Compare(a.Name, b.Name); c != 0 {
		return c
	}
	return a.Op - b.Op
}

// measured is a term's size, its depth, and names by Op, as the chapter's words say.
func measured(t api.Term) (size, deep int, names map[int][]string) {
	names = map[int][]string{}
	if t.Name != "" {
		names[t.Op] = []string{t.Name}
	}
	for _, part := range t.A {
		s, d, n := measured(part)
		size, deep = size+s, max(deep, d)
		for op, l := range n {
			names[op] = append(names[op], l...)
		}
	}
	return size + 1, deep + 1, names
}

// R1: what is handed in stays as it was, and answers are the caller's.
func TestTermsStayAsTheyWere(t *testing.T) {
	source := rand.New(rand.NewSource(7))
	for i := range 500 {
		x := grow(source, 4, 4)
		if i%3 == 0 {
			x = of(api.Not, of(api.And, x, some(1), x))
		}
		before, other := clone(x), grow(source, 3, 4)
		Sort(x)
		Size(x)
		Deep(x)
		Same(x, other)
		l := Names(x)
		if !Same(x, before) {
			t.Fatalf("%v became %v", before, x)
		}
		kept := slices.Clone(l)
		for k := range l {
			l[k] = api.Assign{Name: "other", To: api.Term{Op: 99, A: []api.Term{{}}}}
		}
		again := Names(x)
		if !Same(x, before) || !slices.EqualFunc(again, kept, sameAssign) {
			t.Fatalf("%v: an answer is not the caller's alone", before)
		}
		for k := range x.A {
			x.A[k] = api.Term{}
		}
		if !slices.EqualFunc(again, kept, sameAssign) {
			t.Fatalf("%v: an answer shares its memory", before)
		}
	}
}

func sameAssign(a, b api.Assign) bool {
	return a.Name == b.Name && Same(a.To, b.To)
}

// R4: the same calls have the same answers.
func TestSameCallsSameAnswers(t *testing.T) {
	source := rand.New(rand.NewSource(9))
	for range 200 {
		x := grow(source, 5, 4)
		first := Names(x)
		for range 3 {
			if !slices.EqualFunc(first, Names(x), sameAssign) {
				t.Fatalf("other names of %v", x)
			}
		}
	}
}
