// Package bits: Whole numbers, bit by bit: see doc/01-bits.md.
package bits

// Len tells how many bits v has; 0 has none.
func Len(v uint64) int {
	n := 0
	for step := 32; step > 0; step >>= 1 {
		if v>>step != 0 {
			v >>= step
			n += step
		}
	}
	return n + int(v)
}

// Shift moves v to the right by n bits, of n below 0 to the left by as many,
// and tells whether any ones went out.
func Shift(v uint64, n int) (uint64, bool) {
	switch {
	case n <= -64 || n >= 64: // apart, for the lowest int has no opposite to shift by
		return 0, v != 0
	case n < 0:
		out := v << -n
		return out, out>>-n != v
	default:
		return v >> n, Cut(v, n) != 0
	}
}

// Cut keeps v's lowest n bits.
func Cut(v uint64, n int) uint64 {
	if n < 1 {
		return 0
	}
	if n > 63 {
		return v
	}
	return v & (1<<n - 1)
}

// Signed tells v's lowest n bits, taken as two's complement.
func Signed(v uint64, n int) int64 {
	if n < 1 {
		return 0
	}
	if n > 63 {
		return int64(v)
	}
	above := 64 - n
	return int64(v<<above) >> above
}

// Rotate turns v to the left by n bits, of n below 0 to the right.
func Rotate(v uint32, n int) uint32 {
	turn := n & 31
	return v<<turn | v>>(32-turn)
}

// Product tells the upper and the lower 64 bits of a times b.
func Product(a, b uint64) (uint64, uint64) {
	aLow, aHigh := lowHalf(a), a>>32
	bLow, bHigh := lowHalf(b), b>>32
	// A product of halves leaves room for one half more, so neither sum goes round.
	first := aHigh*bLow + aLow*bLow>>32
	second := aLow*bHigh + lowHalf(first)
	return aHigh*bHigh + first>>32 + second>>32, a * b
}

// lowHalf keeps the lower 32 bits of v.
func lowHalf(v uint64) uint64 { return uint64(uint32(v)) }

// Root tells the greatest number whose square isn't above v, and whether its square is v.
func Root(v uint64) (uint32, bool) {
	root := uint64(0)
	// A root has half as many bits as its square, so no square that is tried goes round.
	for at := (Len(v)+1)/2 - 1; at >= 0; at-- {
		try := root | 1<<at
		if try*try <= v {
			root = try
		}
	}
	return uint32(root), root*root == v
}
