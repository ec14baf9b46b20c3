package ray

import (
	"cmp"
	"math/bits"
)

// wide is a number of two words, for what one word cannot hold.
type wide struct{ high, low uint64 }

func wideProduct(a, b int) wide {
	high, low := bits.Mul64(uint64(a), uint64(b))
	return wide{high, low}
}

func (w wide) compare(v wide) int {
	return cmp.Or(cmp.Compare(w.high, v.high), cmp.Compare(w.low, v.low))
}
