package quot

import (
	"math"
	"testing"

	"anneal/api"
)

// P6.2: quotients that never end, far from numbers and from what is halfway.
func TestQuotientsThatNeverEnd(t *testing.T) {
	for _, r := range []row{
		{half, 0x3c00, 0x4200, [5]uint32{0x3555, 0x3555, 0x3556, 0x3555, 0x3555}, same(inexact)}, // 1 by 3
		{half, 0x4000, 0x4200, [5]uint32{0x3955, 0x3955, 0x3956, 0x3955, 0x3955}, same(inexact)}, // 2 by 3
		{half, 0x4500, 0x4200, [5]uint32{0x3eab, 0x3eaa, 0x3eab, 0x3eaa, 0x3eab}, same(inexact)}, // 5 by 3
		{brain, 0x3f80, 0x4040, [5]uint32{0x3eab, 0x3eaa, 0x3eab, 0x3eaa, 0x3eab}, same(inexact)},
		{brain, 0x40a0, 0x4040, [5]uint32{0x3fd5, 0x3fd5, 0x3fd6, 0x3fd5, 0x3fd5}, same(inexact)},
		{single, 0x3f800000, 0x40400000, [5]uint32{0x3eaaaaab, 0x3eaaaaaa, 0x3eaaaaab, 0x3eaaaaaa, 0x3eaaaaab}, same(inexact)},
		{single, 0x3f800000, 0x41200000, [5]uint32{0x3dcccccd, 0x3dcccccc, 0x3dcccccd, 0x3dcccccc, 0x3dcccccd}, same(inexact)}, // 1 by 10
		{single, 0x40a00000, 0x40400000, [5]uint32{0x3fd55555, 0x3fd55555, 0x3fd55556, 0x3fd55555, 0x3fd55555}, same(inexact)},
	} {
		r.holdDiv(t, "P6.2")
	}
}

// P6.2: quotients that never end and begin as a number does, or as what is
// halfway between two, with noughts or ones behind: 1 by 1 - u is
// 1 + u + u^2 .., 1 by 1 + u is 1 - u + u^2 .., 1 - 2u by 1 - u is 1 - u - u^2 ..
func TestQuotientsThatSeemToEnd(t *testing.T) {
	for _, r := range []row{
		{half, 0x3c00, 0x3bff, [5]uint32{0x3c01, 0x3c00, 0x3c01, 0x3c00, 0x3c01}, same(inexact)}, // above halfway
		{half, 0x3c00, 0x3bfe, [5]uint32{0x3c01, 0x3c01, 0x3c02, 0x3c01, 0x3c01}, same(inexact)},
		{half, 0x3c00, 0x3c01, [5]uint32{0x3bfe, 0x3bfe, 0x3bff, 0x3bfe, 0x3bfe}, same(inexact)},
		{half, 0x3bfe, 0x3bff, [5]uint32{0x3bff, 0x3bfe, 0x3bff, 0x3bfe, 0x3bff}, same(inexact)},
		{brain, 0x3f80, 0x3f7f, [5]uint32{0x3f81, 0x3f80, 0x3f81, 0x3f80, 0x3f81}, same(inexact)},
		{brain, 0x3f80, 0x3f7e, [5]uint32{0x3f81, 0x3f81, 0x3f82, 0x3f81, 0x3f81}, same(inexact)},
		{brain, 0x3f80, 0x3f81, [5]uint32{0x3f7e, 0x3f7e, 0x3f7f, 0x3f7e, 0x3f7e}, same(inexact)},
		{brain, 0x3f7e, 0x3f7f, [5]uint32{0x3f7f, 0x3f7e, 0x3f7f, 0x3f7e, 0x3f7f}, same(inexact)},
		{single, 0x3f800000, 0x3f7fffff, [5]uint32{0x3f800001, 0x3f800000, 0x3f800001, 0x3f800000, 0x3f800001}, same(inexact)},
		{single, 0x3f800000, 0x3f7ffffe, [5]uint32{0x3f800001, 0x3f800001, 0x3f800002, 0x3f800001, 0x3f800001}, same(inexact)},
		{single, 0x3f800000, 0x3f800001, [5]uint32{0x3f7ffffe, 0x3f7ffffe, 0x3f7fffff, 0x3f7ffffe, 0x3f7ffffe}, same(inexact)},
		{single, 0x3f7ffffe, 0x3f7fffff, [5]uint32{0x3f7fffff, 0x3f7ffffe, 0x3f7fffff, 0x3f7ffffe, 0x3f7fffff}, same(inexact)},
		// and below the least normal number, or at it, a little above a number and above what is halfway
		{single, 0x00800000, 0x3f7fffff, [5]uint32{0x00800001, 0x00800000, 0x00800001, 0x00800000, 0x00800001}, same(inexact)},
		{single, 0x00000001, 0x3f7fffff, [5]uint32{0x00000001, 0x00000001, 0x00000002, 0x00000001, 0x00000001}, same(under)},
		{single, 0x00000001, 0x3fffffff, [5]uint32{0x00000001, 0x00000000, 0x00000001, 0x00000000, 0x00000001}, same(under)},
		{single, 0x00000005, 0x3fffffff, [5]uint32{0x00000003, 0x00000002, 0x00000003, 0x00000002, 0x00000003}, same(under)},
	} {
		r.holdDiv(t, "P6.2")
	}
}

// P6.2: Singles beside one, whose quotients have many noughts or ones behind what is kept.
func TestQuotientsBesideOne(t *testing.T) {
	for k := uint32(1); k < 200; k++ {
		for n := uint32(1); n < 200; n++ {
			single.holdQuotient(t, "P6.2", single.one-k, single.one-n)
			single.holdQuotient(t, "P6.2", single.one+k-1, single.one-n)
			single.holdQuotient(t, "P6.2", single.one+k-1, single.one+n)
		}
	}
}

// P6.2: a quotient ends just where what is left is nothing: Inexact is told of
// the others alone, and of these the ones above and below are neighbours.
func TestInexactIsWhatNeverEnds(t *testing.T) {
	for k := uint32(1); k < 3000; k++ {
		by := math.Float32bits(float32(k))
		below, down := Div(api.Single, api.Down, single.one, by)
		above, up := Div(api.Single, api.Up, single.one, by)
		ends := k&(k-1) == 0
		if down.Inexact == ends || up.Inexact == ends || ends && above != below || !ends && above != below+1 {
			t.Fatalf("P6.2: 1 by %d is from %#x, %+v, to %#x, %+v", k, below, down, above, up)
		}
	}
}

// wrongs are numbers of all kinds.
func (w layout) wrongs() []uint32 {
	quiets, signals := w.nans()
	l := append(w.numbers(), w.without(40)...)
	return append(l, quiets[0], quiets[3], signals[0], signals[5])
}

// P6.1: formats beyond the three count as Single.
func TestOtherFormats(t *testing.T) {
	l := single.wrongs()
	for _, f := range []int{3, -1, 255, 1 << 32, math.MaxInt, math.MinInt} {
		for _, mode := range modes() {
			for _, a := range l {
				if got, want := sqrt(f, mode, a), sqrt(api.Single, mode, a); got != want {
					t.Fatalf("P6.1: Sqrt in format %d, mode %d of %#x is %+v, not %+v", f, mode, a, got, want)
				}
				for _, b := range l {
					if got, want := div(f, mode, a, b), div(api.Single, mode, a, b); got != want {
						t.Fatalf("P6.1: Div in format %d, mode %d of %#x, %#x is %+v, not %+v", f, mode, a, b, got, want)
					}
				}
			}
		}
	}
}

// P6.1: bits above a format's say nothing, and none are answered.
func TestBitsAboveAFormats(t *testing.T) {
	for _, w := range []layout{half, brain} {
		l := w.wrongs()
		for _, mode := range modes() {
			for _, a := range l {
				for _, high := range []uint32{0x10000, 0x80000000, 0xffff0000} {
					w.holdSqrt(t, "P6.1", mode, a|high, sqrt(w.f, mode, a))
				}
				for _, b := range l {
					want := div(w.f, mode, a, b)
					if want.v&^w.mask != 0 {
						t.Fatalf("P6.1: %s: Div in mode %d of %#x, %#x is %#x", w.name, mode, a, b, want.v)
					}
					w.holdDiv(t, "P6.1", mode, a|0x10000, b|0x80000000, want)
					w.holdDiv(t, "P6.1", mode, a|0xffff0000, b|0xa5a50000, want)
				}
			}
		}
	}
}
