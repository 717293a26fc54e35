package num

// Rat is P / Q; it is right if Q is above 0 and they have no common divisor above 1 (A2).
type Rat struct{ P, Q int64 }

// Make is the right rat that is p / q (A2).
func Make(p, q int64) (Rat, bool) {
	return attempt(func() Rat {
		if q == 0 {
			panic(misfit)
		}
		d := divisor(size(p), size(q))
		return Rat{signed((p < 0) != (q < 0), size(p)/d), signed(false, size(q)/d)}
	})
}

// Whole is n / 1 (A2).
func Whole(n int64) Rat {
	return Rat{n, 1}
}

// Plus is the sum (A3).
func (a Rat) Plus(b Rat) (Rat, bool) {
	return attempt(func() Rat {
		d := shared(a, b)
		return lowest(product(a.P, b.Q/d).plus(product(b.P, a.Q/d)), a.Q/d, b.Q, d)
	})
}

// Minus is the difference (A3). It is no Plus of the other sign, since the
// least int64 has no counterpart above 0.
func (a Rat) Minus(b Rat) (Rat, bool) {
	return attempt(func() Rat {
		d := shared(a, b)
		return lowest(product(a.P, b.Q/d).minus(product(b.P, a.Q/d)), a.Q/d, b.Q, d)
	})
}

// Times is the product (A3).
func (a Rat) Times(b Rat) (Rat, bool) {
	return attempt(func() Rat { return crossed(partsOf(a), partsOf(b)) })
}

// Over is the quotient (A3).
func (a Rat) Over(b Rat) (Rat, bool) {
	return attempt(func() Rat { return crossed(partsOf(a), partsOf(b).turned()) })
}

// Cmp is -1, 0 or 1, if a is below b, the same, or above (A3).
func (a Rat) Cmp(b Rat) int {
	gap := product(a.P, b.Q).minus(product(b.P, a.Q))
	switch {
	case gap.below():
		return -1
	case gap == wide{}:
		return 0
	}
	return 1
}

// Floor is the greatest whole number that is not above a (A3).
func (a Rat) Floor() int64 {
	if a.Q < 1 {
		return 0
	}
	if a.P%a.Q < 0 {
		return a.P/a.Q - 1
	}
	return a.P / a.Q
}

// Ceil is the least whole number that is not below a (A3).
func (a Rat) Ceil() int64 {
	if a.Q < 1 {
		return 0
	}
	if a.P%a.Q > 0 {
		return a.P/a.Q + 1
	}
	return a.P / a.Q
}

// shared is the greatest common divisor of what two rats are divided by.
func shared(a, b Rat) int64 {
	return signed(false, divisor(partsOf(a).q, partsOf(b).q))
}

// lowest is top / (left * right) as a right rat, where d is what the divisors
// of the two rats that top was made of share: only a divisor of d can be
// common to top and what it is divided by, so the latter is never multiplied
// out ahead of being made smaller.
func lowest(top wide, left, right, d int64) Rat {
	e := divisor(top.size().rest(size(d)), size(d))
	return Rat{signed(top.below(), top.size().over(e)), signed(false, multiple(size(left), size(right)/e))}
}

// parts is a rat by sizes: turned round, one may be divided by 2^63.
type parts struct {
	below bool
	p, q  uint64
}

// partsOf panics if a cannot be right, so that nobody divides by 0 further on.
func partsOf(a Rat) parts {
	if a.Q < 1 {
		panic(misfit)
	}
	return parts{a.P < 0, size(a.P), size(a.Q)}
}

// turned is 1 over a.
func (a parts) turned() parts {
	if a.p == 0 {
		panic(misfit)
	}
	return parts{a.below, a.q, a.p}
}

// crossed is the product, made smaller ahead of being multiplied out: what is
// left after that has no common divisor, so it fits or the product does not.
func crossed(a, b parts) Rat {
	d, e := divisor(a.p, b.q), divisor(b.p, a.q)
	return Rat{signed(a.below != b.below, multiple(a.p/d, b.p/e)), signed(false, multiple(a.q/e, b.q/d))}
}
