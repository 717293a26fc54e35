package num

import "math/bits"

// wide is a whole number of 128 bits in two's complement. Two products of
// int64s can be added in it, since a divisor of a right rat is at most 2^63 - 1.
type wide struct{ high, low uint64 }

func widen(a int64) wide {
	return wide{uint64(a >> 63), uint64(a)}
}

// narrow is the int64 that w is.
func narrow(w wide) int64 {
	return signed(w.below(), w.size().over(1))
}

func product(a, b int64) wide {
	high, low := bits.Mul64(size(a), size(b))
	w := wide{high, low}
	if (a < 0) != (b < 0) {
		return wide{}.minus(w)
	}
	return w
}

func (w wide) plus(v wide) wide {
	low, carry := bits.Add64(w.low, v.low, 0)
	high, _ := bits.Add64(w.high, v.high, carry)
	return wide{high, low}
}

func (w wide) minus(v wide) wide {
	low, borrow := bits.Sub64(w.low, v.low, 0)
	high, _ := bits.Sub64(w.high, v.high, borrow)
	return wide{high, low}
}

func (w wide) below() bool {
	return w.high>>63 == 1
}

// size is how far w is from 0.
func (w wide) size() wide {
	if w.below() {
		return wide{}.minus(w)
	}
	return w
}

// over divides a wide size by d, which is above 0.
func (w wide) over(d uint64) uint64 {
	if w.high >= d {
		panic(misfit)
	}
	whole, _ := bits.Div64(w.high, w.low, d)
	return whole
}

// rest is what dividing a wide size by d, which is above 0, leaves.
func (w wide) rest(d uint64) uint64 {
	return bits.Rem64(w.high, w.low, d)
}
