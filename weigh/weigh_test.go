package weigh

import (
	"math"
	"math/big"
	"math/rand"
	"testing"
)

var (
	none  = math.NaN()
	above = math.Inf(1)
	below = math.Inf(-1)
	minus = math.Copysign(0, -1)
	most  = math.MaxFloat64
	tiny  = math.SmallestNonzeroFloat64
)

// ladder is weights in the order that B1 tells, no two of one place.
func ladder() []float64 {
	limit := float64(Limit)
	return []float64{
		none, below, -most, -math.Nextafter(limit, above), -limit, -math.Nextafter(limit, 0), -3, -1, -tiny, minus,
		0, tiny, 1, 3, math.Nextafter(limit, 0), limit, math.Nextafter(limit, above), math.Nextafter(most, 0), most, above,
	}
}

// nones are floats that are no number, with other bits and signs.
func nones() []float64 {
	return []float64{none, math.Copysign(none, -1), math.Float64frombits(0x7ff0000000000001), math.Float64frombits(0xfff8000000000123)}
}

// rows is lists of weights of which some have several of the same weight.
func rows(n int) [][]float64 {
	source, from := rand.New(rand.NewSource(2)), ladder()
	var all [][]float64
	for range n {
		row := make([]float64, source.Intn(6))
		for i := range row {
			row[i] = from[source.Intn(len(from))]
		}
		all = append(all, row)
	}
	return all
}

// same tells whether two floats have the same bits.
func same(a, b float64) bool {
	return math.Float64bits(a) == math.Float64bits(b)
}

func sameRow(a, b []float64) bool {
	if len(a) != len(b) {
		return false
	}
	for i := range a {
		if !same(a[i], b[i]) {
			return false
		}
	}
	return true
}

// tamed is B1's words, told by the library's questions.
func tamed(x float64) float64 {
	if math.IsNaN(x) {
		return 0
	}
	if math.IsInf(x, 0) {
		return math.Copysign(math.MaxFloat64, x)
	}
	return x
}

// nearest is the finite float64 nearest to an exact number, or the farthest on its side.
func nearest(x *big.Rat) float64 {
	f, _ := x.Float64()
	return tamed(f)
}

func exact(x float64) *big.Rat {
	return new(big.Rat).SetFloat64(tamed(x))
}

func TestTame(t *testing.T) {
	for _, x := range nones() {
		if got := Tame(x); !same(got, 0) {
			t.Errorf("Tame of no number %x: %v", math.Float64bits(x), got)
		}
	}
	for _, x := range []struct{ of, want float64 }{
		{above, most}, {below, -most}, {most, most}, {-most, -most}, {minus, minus}, {0, 0}, {1.5, 1.5}, {-tiny, -tiny}, {Limit, Limit},
		{math.Nextafter(most, 0), math.Nextafter(most, 0)}, {-math.Nextafter(most, 0), -math.Nextafter(most, 0)},
	} {
		if got := Tame(x.of); !same(got, x.want) {
			t.Errorf("Tame(%v): %v, not %v", x.of, got, x.want)
		}
	}
}

func TestLessIsTheLadder(t *testing.T) {
	for i, a := range ladder() {
		for k, b := range ladder() {
			if got := Less(a, b); got != (i < k) {
				t.Errorf("Less(%v, %v): %v", a, b, got)
			}
		}
	}
}

func TestLessOfWhatIsNoNumber(t *testing.T) {
	for _, a := range nones() {
		for _, b := range nones() {
			if Less(a, b) {
				t.Errorf("Less(%x, %x): all that is no number is one", math.Float64bits(a), math.Float64bits(b))
			}
		}
		for _, b := range ladder()[1:] {
			if !Less(a, b) || Less(b, a) {
				t.Errorf("%x and %v: what is no number comes first", math.Float64bits(a), b)
			}
		}
	}
}

func TestBump(t *testing.T) {
	for _, w := range ladder() {
		for _, by := range ladder() {
			want := nearest(new(big.Rat).Add(exact(w), exact(by)))
			got := Bump(w, by)
			if got != want {
				t.Errorf("Bump(%v, %v): %v, not %v", w, by, got, want)
			}
			if bothMinus := same(w, minus) && same(by, minus); got == 0 && math.Signbit(got) != bothMinus {
				t.Errorf("Bump(%v, %v): the sign of %v", w, by, got)
			}
		}
	}
	for _, x := range []struct{ w, by, want float64 }{
		{above, 1, most}, {above, below, 0}, {most, most, most}, {-most, -most, -most}, {none, none, 0}, {none, 2, 2}, {2, none, 2},
		{none, minus, 0}, {most, 1, most}, {0.1, 0.2, 0.30000000000000004}, {1, -1, 0}, {tiny, tiny, 2 * tiny},
	} {
		if got := Bump(x.w, x.by); !same(got, x.want) {
			t.Errorf("Bump(%v, %v): %v, not %v", x.w, x.by, got, x.want)
		}
	}
}

func TestDecay(t *testing.T) {
	for _, by := range append(ladder(), 0.95, 0.1, 7, 1e300, most*0.95, most*0.96, 4*tiny) {
		want := nearest(new(big.Rat).Quo(exact(by), exact(0.95)))
		got := Decay(by)
		if got != want || math.Signbit(got) != math.Signbit(tamed(by)) {
			t.Errorf("Decay(%v): %v, not %v", by, got, want)
		}
	}
	for _, x := range []struct{ by, want float64 }{
		{0.95, 1}, {1, 1 / float64(0.95)}, {most, most}, {-most, -most}, {above, most}, {below, -most}, {none, 0}, {0, 0}, {minus, minus},
	} {
		if got := Decay(x.by); !same(got, x.want) {
			t.Errorf("Decay(%v): %v, not %v", x.by, got, x.want)
		}
	}
}

func TestLimit(t *testing.T) {
	if got := float64(Limit); got != float64(1e100) {
		t.Errorf("Limit: %v", got)
	}
}

func TestRescaleWithinLimit(t *testing.T) {
	limit := float64(Limit)
	for _, l := range [][]float64{
		nil, {}, {0}, {limit}, {-limit}, {limit, -limit, none, minus}, {1, 2, 2}, {math.Nextafter(limit, 0)}, nones(),
	} {
		got, far := Rescale(l)
		if far || len(got) != len(l) {
			t.Fatalf("Rescale(%v): %v %v", l, got, far)
		}
		for i, x := range l {
			if !same(got[i], tamed(x)) {
				t.Errorf("Rescale(%v): %v", l, got)
			}
		}
	}
}

func TestRescaleBeyondLimit(t *testing.T) {
	over := math.Nextafter(Limit, above)
	for _, l := range [][]float64{
		{over}, {-over}, {above}, {below}, {most}, {-most}, {1, 2, 2, over}, {below, none, minus, 0, tiny, 1}, {Limit, -over, -Limit}, {none, 3e100, 1e-250},
	} {
		got, far := Rescale(l)
		if !far || len(got) != len(l) {
			t.Fatalf("Rescale(%v): %v %v", l, got, far)
		}
		for i, x := range l {
			want := nearest(new(big.Rat).Mul(exact(x), exact(1e-100)))
			if got[i] != want || math.Signbit(got[i]) != math.Signbit(tamed(x)) {
				t.Errorf("Rescale(%v): %v at %d, not %v", l, got[i], i, want)
			}
		}
	}
}

func TestRescaleIsNewMemory(t *testing.T) {
	for _, l := range rows(500) {
		before := append([]float64(nil), l...)
		got, far := Rescale(l)
		if !sameRow(l, before) {
			t.Fatalf("%v became %v", before, l)
		}
		for i := range got {
			got[i] = 77
		}
		if !sameRow(l, before) {
			t.Fatalf("%v shares its memory with the answer", before)
		}
		again, farAgain := Rescale(l)
		for i := range l {
			l[i] = 88
		}
		for i, x := range before {
			want := tamed(x)
			if far {
				want *= 1e-100
			}
			if farAgain != far || !same(again[i], want) {
				t.Fatalf("Rescale(%v): %v %v", before, again, farAgain)
			}
		}
	}
}

func TestWeightsStayFinite(t *testing.T) {
	finite := func(x float64) bool { return !math.IsNaN(x) && !math.IsInf(x, 0) }
	for _, w := range ladder() {
		for _, by := range ladder() {
			if !finite(Bump(w, by)) || !finite(Decay(by)) {
				t.Errorf("%v bumped by %v", w, by)
			}
		}
	}
	for _, l := range rows(500) {
		got, _ := Rescale(l)
		for _, x := range got {
			if !finite(x) {
				t.Errorf("Rescale(%v): %v", l, got)
			}
		}
	}
}

func TestHeavy(t *testing.T) {
	for _, x := range []struct {
		l    []float64
		want int
	}{
		{nil, -1}, {[]float64{}, -1}, {[]float64{none}, 0}, {nones(), 0}, {[]float64{below}, 0}, {[]float64{none, below}, 1},
		{[]float64{minus, 0, 0}, 1}, {[]float64{0, minus}, 0}, {[]float64{minus, minus}, 0}, {[]float64{5, 5, 5}, 0}, {[]float64{2, 5, 5, none}, 1},
		{[]float64{most, above, above}, 1}, {[]float64{above, most}, 0}, {[]float64{-1, -2, -1}, 0}, {[]float64{none, none, -most, below}, 2},
	} {
		if got := Heavy(x.l); got != x.want {
			t.Errorf("Heavy(%v): %d, not %d", x.l, got, x.want)
		}
	}
}

func TestHeavyIsLessThanNoOther(t *testing.T) {
	for _, l := range rows(2000) {
		before := append([]float64(nil), l...)
		want := -1
		for i := len(l) - 1; i >= 0; i-- {
			least := true
			for _, other := range l {
				least = least && !Less(l[i], other)
			}
			if least {
				want = i
			}
		}
		if got := Heavy(l); got != want || !sameRow(l, before) {
			t.Errorf("Heavy(%v): %d, not %d", before, got, want)
		}
	}
}
