package constraint

import (
	"math/bits"

	"confluent/api"
)

// rowHolds reports whether a row holds in a list of values; false if a cell of it is none of the list.
func rowHolds(r api.Row, state []int) bool {
	excess := sum{}.plus(-1, r.Bound)
	for _, t := range r.Terms {
		if t.Cell < 0 || t.Cell >= len(state) {
			return false
		}
		excess = excess.plus(t.Factor, state[t.Cell])
	}
	return !excess.positive()
}

// sum is a sum of products of two ints: the words of its two's complement, the lowest one first. Rows and values can be any ints, and an int does not hold what they add up to; three words do.
type sum [3]uint64

func (s sum) plus(a, b int) sum {
	high, low := bits.Mul64(uint64(a), uint64(b))
	if a < 0 {
		high -= uint64(b)
	}
	if b < 0 {
		high -= uint64(a)
	}
	sign := uint64(int64(high) >> 63)
	var carry uint64
	s[0], carry = bits.Add64(s[0], low, 0)
	s[1], carry = bits.Add64(s[1], high, carry)
	s[2], _ = bits.Add64(s[2], sign, carry)
	return s
}

func (s sum) positive() bool { return int64(s[2]) >= 0 && s != sum{} }
