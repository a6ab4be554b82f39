package quot

import (
	"math"
	"testing"

	"anneal/api"
)

// P6.1: the chapter's example, and roots that are whole, of even exponents, of
// odd ones and of subnormals; there is nothing beside.
func TestSqrtWhole(t *testing.T) {
	for _, r := range []row{
		{w: single, a: 0x40800000, want: same[uint32](0x40000000)}, // 4
		{w: half, a: 0x4400, want: same[uint32](0x4000)},
		{w: half, a: 0x4880, want: same[uint32](0x4200)}, // 9
		{w: half, a: 0x4e40, want: same[uint32](0x4500)}, // 25
		{w: half, a: 0x3c00, want: same[uint32](0x3c00)},
		{w: half, a: 0x4080, want: same[uint32](0x3e00)}, // 2.25
		{w: half, a: 0x3400, want: same[uint32](0x3800)},
		{w: half, a: 0x0400, want: same[uint32](0x2000)},
		{w: half, a: 0x0001, want: same[uint32](0x0c00)},
		{w: half, a: 0x0004, want: same[uint32](0x1000)},
		{w: half, a: 0x0009, want: same[uint32](0x1200)},
		{w: brain, a: 0x4080, want: same[uint32](0x4000)},
		{w: brain, a: 0x4110, want: same[uint32](0x4040)}, // 9
		{w: brain, a: 0x0002, want: same[uint32](0x1e80)},
		{w: single, a: 0x41100000, want: same[uint32](0x40400000)}, // 9
		{w: single, a: 0x40100000, want: same[uint32](0x3fc00000)}, // 2.25
		{w: single, a: 0x00000002, want: same[uint32](0x1a800000)},
		{w: single, a: 0x00000012, want: same[uint32](0x1b400000)},
		{w: single, a: 0x7e800000, want: same[uint32](0x5f000000)},
	} {
		r.holdSqrt(t, "P6.1")
	}
}

// P6.1: each number of so many bits that its square needs no rounding is its square's root.
func TestSqrtOfSquares(t *testing.T) {
	for _, mode := range modes() {
		for k := uint32(1); k < 1<<12; k++ {
			root, square := math.Float32bits(float32(k)), math.Float32bits(float32(k*k))
			single.holdSqrt(t, "P6.1", mode, square, answer{v: root})
			single.holdSqrt(t, "P6.1", mode, square-100<<23, answer{v: root - 50<<23})
		}
	}
}

// P6.1: a Quiet NaN makes the plain one and nothing else, a Signal one Invalid as well.
func TestSqrtNans(t *testing.T) {
	for _, w := range layouts() {
		quiets, signals := w.nans()
		for _, mode := range modes() {
			for _, q := range quiets {
				w.holdSqrt(t, "P6.1", mode, q, answer{v: w.quiet})
			}
			for _, s := range signals {
				w.holdSqrt(t, "P6.1", mode, s, answer{w.quiet, invalid})
			}
		}
	}
}

// P6.1: a nought is its own root, with its sign, in each mode; so is infinity above nought.
func TestSqrtNoughtsAndInfinity(t *testing.T) {
	for _, w := range layouts() {
		for _, mode := range modes() {
			for _, nought := range w.noughts() {
				w.holdSqrt(t, "P6.1", mode, nought, answer{v: nought})
			}
			w.holdSqrt(t, "P6.1", mode, w.inf, answer{v: w.inf})
		}
	}
}

// P6.1: what is below nought has no root, the least number and infinity neither.
func TestSqrtBelowNought(t *testing.T) {
	for _, w := range layouts() {
		for _, mode := range modes() {
			for _, v := range append(w.edges(), w.inf) {
				w.holdSqrt(t, "P6.1", mode, v|w.sign, answer{w.quiet, invalid})
			}
		}
	}
}

// P6.1: each Half and each Brain number above nought.
func TestSqrtEveryNumberOfSixteenBits(t *testing.T) {
	for _, w := range []layout{half, brain} {
		for v := uint32(1); v < w.inf; v++ {
			w.holdRoot(t, "P6.1", v)
		}
	}
}

// P6.1: Singles at each exponent and without a pattern.
func TestSqrtAgainstTheExactRoot(t *testing.T) {
	for _, v := range append(single.edges(), single.without(20000)...) {
		single.holdRoot(t, "P6.1", v&^single.sign)
	}
}

// P6.1: Singles by the nearest are the machine's own.
func TestSqrtAgainstTheMachine(t *testing.T) {
	for _, v := range single.without(400000) {
		v &^= single.sign
		want := math.Float32bits(float32(math.Sqrt(float64(math.Float32frombits(v)))))
		if got, _ := Sqrt(api.Single, api.NearEven, v); got != want {
			t.Fatalf("P6.1: the root of %#x is %#x, not %#x", v, got, want)
		}
	}
}

// P6.1: roots that are not whole, of even exponents and of odd ones.
func TestSqrtNotWhole(t *testing.T) {
	for _, r := range []row{
		{w: half, a: 0x4000, want: [5]uint32{0x3da8, 0x3da8, 0x3da9, 0x3da8, 0x3da8}, x: same(inexact)}, // 2
		{w: half, a: 0x4200, want: [5]uint32{0x3eee, 0x3eed, 0x3eee, 0x3eed, 0x3eee}, x: same(inexact)}, // 3
		{w: half, a: 0x0002, want: [5]uint32{0x0da8, 0x0da8, 0x0da9, 0x0da8, 0x0da8}, x: same(inexact)},
		{w: half, a: 0x0003, want: [5]uint32{0x0eee, 0x0eed, 0x0eee, 0x0eed, 0x0eee}, x: same(inexact)},
		{w: half, a: 0x7bff, want: [5]uint32{0x5bff, 0x5bff, 0x5c00, 0x5bff, 0x5bff}, x: same(inexact)},
		{w: brain, a: 0x4000, want: [5]uint32{0x3fb5, 0x3fb5, 0x3fb6, 0x3fb5, 0x3fb5}, x: same(inexact)},
		{w: brain, a: 0x0001, want: [5]uint32{0x1e35, 0x1e35, 0x1e36, 0x1e35, 0x1e35}, x: same(inexact)},
		{w: brain, a: 0x7f7f, want: [5]uint32{0x5f7f, 0x5f7f, 0x5f80, 0x5f7f, 0x5f7f}, x: same(inexact)},
		{w: single, a: 0x40000000, want: [5]uint32{0x3fb504f3, 0x3fb504f3, 0x3fb504f4, 0x3fb504f3, 0x3fb504f3}, x: same(inexact)},
		{w: single, a: 0x40400000, want: [5]uint32{0x3fddb3d7, 0x3fddb3d7, 0x3fddb3d8, 0x3fddb3d7, 0x3fddb3d7}, x: same(inexact)},
		{w: single, a: 0x00000001, want: [5]uint32{0x1a3504f3, 0x1a3504f3, 0x1a3504f4, 0x1a3504f3, 0x1a3504f3}, x: same(inexact)},
		{w: single, a: 0x7f7fffff, want: [5]uint32{0x5f7fffff, 0x5f7fffff, 0x5f800000, 0x5f7fffff, 0x5f7fffff}, x: same(inexact)},
	} {
		r.holdSqrt(t, "P6.1")
	}
}

// P6.1: roots that are just not whole, a little beside numbers and beside what
// is halfway between two.
func TestSqrtJustNotWhole(t *testing.T) {
	for _, r := range []row{
		{w: half, a: 0x3c01, want: [5]uint32{0x3c00, 0x3c00, 0x3c01, 0x3c00, 0x3c00}, x: same(inexact)},
		{w: half, a: 0x3c02, want: [5]uint32{0x3c01, 0x3c00, 0x3c01, 0x3c00, 0x3c01}, x: same(inexact)},
		{w: half, a: 0x3bff, want: [5]uint32{0x3bff, 0x3bff, 0x3c00, 0x3bff, 0x3bff}, x: same(inexact)},
		{w: half, a: 0x43ff, want: [5]uint32{0x3fff, 0x3fff, 0x4000, 0x3fff, 0x3fff}, x: same(inexact)},
		{w: half, a: 0x4401, want: [5]uint32{0x4000, 0x4000, 0x4001, 0x4000, 0x4000}, x: same(inexact)},
		{w: brain, a: 0x3f81, want: [5]uint32{0x3f80, 0x3f80, 0x3f81, 0x3f80, 0x3f80}, x: same(inexact)},
		{w: brain, a: 0x3f82, want: [5]uint32{0x3f81, 0x3f80, 0x3f81, 0x3f80, 0x3f81}, x: same(inexact)},
		{w: brain, a: 0x407f, want: [5]uint32{0x3fff, 0x3fff, 0x4000, 0x3fff, 0x3fff}, x: same(inexact)},
		{w: single, a: 0x3f800001, want: [5]uint32{0x3f800000, 0x3f800000, 0x3f800001, 0x3f800000, 0x3f800000}, x: same(inexact)},
		{w: single, a: 0x3f800002, want: [5]uint32{0x3f800001, 0x3f800000, 0x3f800001, 0x3f800000, 0x3f800001}, x: same(inexact)},
		{w: single, a: 0x3f7fffff, want: [5]uint32{0x3f7fffff, 0x3f7fffff, 0x3f800000, 0x3f7fffff, 0x3f7fffff}, x: same(inexact)},
		{w: single, a: 0x407fffff, want: [5]uint32{0x3fffffff, 0x3fffffff, 0x40000000, 0x3fffffff, 0x3fffffff}, x: same(inexact)},
		{w: single, a: 0x40800001, want: [5]uint32{0x40000000, 0x40000000, 0x40000001, 0x40000000, 0x40000000}, x: same(inexact)},
		// less than 2^-31 above a number, and above what is halfway
		{w: single, a: 0x3f8016a1, want: [5]uint32{0x3f800b50, 0x3f800b50, 0x3f800b51, 0x3f800b50, 0x3f800b50}, x: same(inexact)},
		{w: single, a: 0x3f80169a, want: [5]uint32{0x3f800b4d, 0x3f800b4c, 0x3f800b4d, 0x3f800b4c, 0x3f800b4d}, x: same(inexact)},
		{w: single, a: 0x3f80169e, want: [5]uint32{0x3f800b4f, 0x3f800b4e, 0x3f800b4f, 0x3f800b4e, 0x3f800b4f}, x: same(inexact)},
	} {
		r.holdSqrt(t, "P6.1")
	}
}
