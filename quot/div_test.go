package quot

import (
	"math"
	"testing"

	"anneal/api"
)

// P6.1: quotients that need no rounding are told as they are, with their sign.
func TestDivWhole(t *testing.T) {
	for _, r := range []row{
		{half, 0x4600, 0x4200, same[uint32](0x4000), same(none)},
		{half, 0x4200, 0x4400, same[uint32](0x3a00), same(none)},
		{half, 0xc200, 0x4400, same[uint32](0xba00), same(none)},
		{half, 0x7bff, 0x7bff, same[uint32](0x3c00), same(none)},
		{brain, 0x40c0, 0x4040, same[uint32](0x4000), same(none)},
		{brain, 0x3f80, 0xc080, same[uint32](0xbe80), same(none)},
		{single, 0x40c00000, 0x40400000, same[uint32](0x40000000), same(none)},
		{single, 0x40000000, 0xbf800000, same[uint32](0xc0000000), same(none)},
		{single, 0x431a0000, 0x41300000, same[uint32](0x41600000), same(none)},
		{single, 0xc31a0000, 0xc1300000, same[uint32](0x41600000), same(none)},
	} {
		r.holdDiv(t, "P6.1")
	}
}

// P6.1: a number by one, with either sign, is as it is, or has its sign turned.
func TestDivByOne(t *testing.T) {
	for _, w := range layouts() {
		for _, mode := range modes() {
			for _, v := range w.edges() {
				w.holdDiv(t, "P6.1", mode, v, w.one, answer{v: v})
				w.holdDiv(t, "P6.1", mode, v, w.sign|w.one, answer{v: w.sign | v})
				w.holdDiv(t, "P6.1", mode, v, v, answer{v: w.one})
				w.holdDiv(t, "P6.1", mode, v, v|w.sign, answer{v: w.sign | w.one})
			}
		}
	}
}

// P6.1: what isn't a number makes the plain NaN, whatever the other one is;
// Invalid just if one is Signal, at whichever place; DivZero by no nought.
func TestDivNans(t *testing.T) {
	for _, w := range layouts() {
		quiets, signals := w.nans()
		for _, mode := range modes() {
			for _, q := range quiets {
				for _, other := range append(w.numbers(), quiets...) {
					w.holdDiv(t, "P6.1", mode, q, other, answer{v: w.quiet})
					w.holdDiv(t, "P6.1", mode, other, q, answer{v: w.quiet})
				}
			}
			for _, s := range signals {
				for _, other := range append(append(w.numbers(), quiets...), signals...) {
					w.holdDiv(t, "P6.1", mode, s, other, answer{w.quiet, invalid})
					w.holdDiv(t, "P6.1", mode, other, s, answer{w.quiet, invalid})
				}
			}
		}
	}
}

// P6.1: two noughts, and two infinities, of whichever signs, are Invalid.
func TestDivTwoNoughtsTwoInfinities(t *testing.T) {
	for _, w := range layouts() {
		for _, mode := range modes() {
			for _, pair := range [][]uint32{w.noughts(), w.infinities()} {
				for _, a := range pair {
					for _, b := range pair {
						w.holdDiv(t, "P6.1", mode, a, b, answer{w.quiet, invalid})
					}
				}
			}
		}
	}
}

// P6.1: an infinity by a number, a nought too, is one with the quotient's sign
// and nothing beside; a number by an infinity is a nought with it.
func TestDivInfinities(t *testing.T) {
	for _, w := range layouts() {
		for _, mode := range modes() {
			for _, i := range w.infinities() {
				for _, v := range append(append(w.noughts(), w.edges()...), w.some()...) {
					sign := (i ^ v) & w.sign
					w.holdDiv(t, "P6.1", mode, i, v, answer{v: sign | w.inf})
					w.holdDiv(t, "P6.1", mode, i, v^w.sign, answer{v: sign ^ w.sign | w.inf})
					w.holdDiv(t, "P6.1", mode, v, i, answer{v: sign})
					w.holdDiv(t, "P6.1", mode, v^w.sign, i, answer{v: sign ^ w.sign})
				}
			}
		}
	}
}

// P6.1: a number by nought is an infinity with the quotient's sign, and DivZero;
// nought by a number is a nought with it and nothing beside; in each mode.
func TestDivNoughts(t *testing.T) {
	for _, w := range layouts() {
		for _, mode := range modes() {
			for _, nought := range w.noughts() {
				for _, v := range append(w.edges(), w.some()...) {
					sign := (nought ^ v) & w.sign
					w.holdDiv(t, "P6.1", mode, v, nought, answer{sign | w.inf, divZero})
					w.holdDiv(t, "P6.1", mode, v^w.sign, nought, answer{sign ^ w.sign | w.inf, divZero})
					w.holdDiv(t, "P6.1", mode, nought, v, answer{v: sign})
					w.holdDiv(t, "P6.1", mode, nought, v^w.sign, answer{v: sign ^ w.sign})
				}
			}
		}
	}
}

// P6.1: Halves at each exponent's edges, each by each.
func TestDivHalvesEachByEach(t *testing.T) {
	edges := half.edges()
	for _, a := range edges {
		for _, b := range edges {
			half.holdQuotient(t, "P6.1", a, b)
			half.holdQuotient(t, "P6.1", a|half.sign, b)
		}
	}
}

// P6.1: each Half and each Brain number by a few, and a few by each.
func TestDivEveryNumberOfSixteenBits(t *testing.T) {
	for _, w := range []layout{half, brain} {
		for _, a := range []uint32{1, w.one / 2, w.sign | (w.one + 1), w.inf - 1} {
			for b := uint32(1); b < w.inf; b++ {
				w.holdQuotient(t, "P6.1", a, b)
				w.holdQuotient(t, "P6.1", b, a)
			}
		}
	}
}

// P6.1: numbers with eight bits of exponent, at each exponent and without a pattern.
func TestDivAgainstTheExactQuotient(t *testing.T) {
	for _, w := range []layout{brain, single} {
		for _, a := range append(w.some(), w.without(10)...) {
			for _, b := range w.edges() {
				w.holdQuotient(t, "P6.1", a, b)
				w.holdQuotient(t, "P6.1", b, a)
			}
		}
		l := w.without(150)
		for _, a := range l {
			for _, b := range l {
				w.holdQuotient(t, "P6.1", a, b)
			}
		}
	}
}

// P6.1: Singles by the nearest are the machine's own.
func TestDivAgainstTheMachine(t *testing.T) {
	l := append(single.without(700), single.some()...)
	l = append(append(l, single.noughts()...), single.infinities()...)
	for _, a := range l {
		for _, b := range l {
			quotient := math.Float32frombits(a) / math.Float32frombits(b)
			want := math.Float32bits(quotient)
			if quotient != quotient {
				want = single.quiet
			}
			if got, _ := Div(api.Single, api.NearEven, a, b); got != want {
				t.Fatalf("P6.1: %#x by %#x is %#x, not %#x", a, b, got, want)
			}
		}
	}
}

// P6.1: quotients above the Greatest, at it and beside it; none is between it
// and the power of 2 above it.
func TestDivAboveTheGreatest(t *testing.T) {
	for _, r := range []row{
		{half, 0x7bff, 0x3800, [5]uint32{0x7c00, 0x7bff, 0x7c00, 0x7bff, 0x7c00}, same(over)},
		{half, 0x7bff, 0x0001, [5]uint32{0x7c00, 0x7bff, 0x7c00, 0x7bff, 0x7c00}, same(over)},
		{half, 0x3c00, 0x0001, [5]uint32{0x7c00, 0x7bff, 0x7c00, 0x7bff, 0x7c00}, same(over)},
		{half, 0x3c00, 0x0100, [5]uint32{0x7c00, 0x7bff, 0x7c00, 0x7bff, 0x7c00}, same(over)}, // just 2^16
		{half, 0x3c00, 0x0200, same[uint32](0x7800), same(none)},
		{half, 0x77ff, 0x3800, same[uint32](0x7bff), same(none)},
		{half, 0x7bff, 0x3bff, [5]uint32{0x7c00, 0x7bff, 0x7c00, 0x7bff, 0x7c00}, same(over)}, // just 2^16
		{half, 0x7bfe, 0x3bff, [5]uint32{0x7bff, 0x7bfe, 0x7bff, 0x7bfe, 0x7bff}, same(inexact)},
		{brain, 0x7f7f, 0x3f00, [5]uint32{0x7f80, 0x7f7f, 0x7f80, 0x7f7f, 0x7f80}, same(over)},
		{brain, 0x7f7f, 0x0001, [5]uint32{0x7f80, 0x7f7f, 0x7f80, 0x7f7f, 0x7f80}, same(over)},
		{brain, 0x7f7f, 0x3f7f, [5]uint32{0x7f80, 0x7f7f, 0x7f80, 0x7f7f, 0x7f80}, same(over)},
		{brain, 0x7f7e, 0x3f7f, [5]uint32{0x7f7f, 0x7f7e, 0x7f7f, 0x7f7e, 0x7f7f}, same(inexact)},
		{brain, 0x7e7f, 0x3e80, same[uint32](0x7f7f), same(none)},
		{single, 0x7f7fffff, 0x3f000000, [5]uint32{0x7f800000, 0x7f7fffff, 0x7f800000, 0x7f7fffff, 0x7f800000}, same(over)},
		{single, 0x7f7fffff, 0x00000001, [5]uint32{0x7f800000, 0x7f7fffff, 0x7f800000, 0x7f7fffff, 0x7f800000}, same(over)},
		{single, 0x7f7fffff, 0x3f7fffff, [5]uint32{0x7f800000, 0x7f7fffff, 0x7f800000, 0x7f7fffff, 0x7f800000}, same(over)},
		{single, 0x7f7ffffe, 0x3f7fffff, [5]uint32{0x7f7fffff, 0x7f7ffffe, 0x7f7fffff, 0x7f7ffffe, 0x7f7fffff}, same(inexact)},
		{single, 0x3f800000, 0x00200000, [5]uint32{0x7f800000, 0x7f7fffff, 0x7f800000, 0x7f7fffff, 0x7f800000}, same(over)},
		{single, 0x3f800000, 0x00400000, same[uint32](0x7f000000), same(none)},
	} {
		r.holdDiv(t, "P6.1")
	}
}

// P6.1: quotients below the least normal number, at half of the least number and
// beside it; Under just where they are Inexact as well.
func TestDivBelowTheLeastNormal(t *testing.T) {
	for _, r := range []row{
		{half, 0x0400, 0x4000, same[uint32](0x0200), same(none)},
		{half, 0x0402, 0x4200, same[uint32](0x0156), same(none)},
		{half, 0x0002, 0x4000, same[uint32](0x0001), same(none)},
		{half, 0x0401, 0x4000, [5]uint32{0x0200, 0x0200, 0x0201, 0x0200, 0x0201}, same(under)}, // halfway
		{half, 0x07ff, 0x4000, [5]uint32{0x0400, 0x03ff, 0x0400, 0x03ff, 0x0400}, same(under)}, // up to the least normal one
		{half, 0x0400, 0x3c01, [5]uint32{0x03ff, 0x03ff, 0x0400, 0x03ff, 0x03ff}, same(under)},
		{half, 0x0001, 0x4000, [5]uint32{0x0000, 0x0000, 0x0001, 0x0000, 0x0001}, same(under)}, // half of the least
		{half, 0x0001, 0x3fff, [5]uint32{0x0001, 0x0000, 0x0001, 0x0000, 0x0001}, same(under)},
		{half, 0x0001, 0x4001, [5]uint32{0x0000, 0x0000, 0x0001, 0x0000, 0x0000}, same(under)},
		{half, 0x0002, 0x4200, [5]uint32{0x0001, 0x0000, 0x0001, 0x0000, 0x0001}, same(under)},
		{half, 0x0001, 0x4200, [5]uint32{0x0000, 0x0000, 0x0001, 0x0000, 0x0000}, same(under)},
		{half, 0x0003, 0x4000, [5]uint32{0x0002, 0x0001, 0x0002, 0x0001, 0x0002}, same(under)}, // one and a half
		{half, 0x0001, 0x7bff, [5]uint32{0x0000, 0x0000, 0x0001, 0x0000, 0x0000}, same(under)},
		{brain, 0x0080, 0x4000, same[uint32](0x0040), same(none)},
		{brain, 0x00ff, 0x4000, [5]uint32{0x0080, 0x007f, 0x0080, 0x007f, 0x0080}, same(under)},
		{brain, 0x0001, 0x4000, [5]uint32{0x0000, 0x0000, 0x0001, 0x0000, 0x0001}, same(under)},
		{brain, 0x0001, 0x3fff, [5]uint32{0x0001, 0x0000, 0x0001, 0x0000, 0x0001}, same(under)},
		{brain, 0x0001, 0x7f7f, [5]uint32{0x0000, 0x0000, 0x0001, 0x0000, 0x0000}, same(under)},
		{single, 0x00800000, 0x40000000, same[uint32](0x00400000), same(none)},
		{single, 0x00800001, 0x40000000, [5]uint32{0x00400000, 0x00400000, 0x00400001, 0x00400000, 0x00400001}, same(under)},
		{single, 0x00ffffff, 0x40000000, [5]uint32{0x00800000, 0x007fffff, 0x00800000, 0x007fffff, 0x00800000}, same(under)},
		{single, 0x00800000, 0x3f800001, [5]uint32{0x007fffff, 0x007fffff, 0x00800000, 0x007fffff, 0x007fffff}, same(under)},
		{single, 0x00000001, 0x40000000, [5]uint32{0x00000000, 0x00000000, 0x00000001, 0x00000000, 0x00000001}, same(under)},
		{single, 0x00000001, 0x3fffffff, [5]uint32{0x00000001, 0x00000000, 0x00000001, 0x00000000, 0x00000001}, same(under)},
		{single, 0x00000001, 0x40000001, [5]uint32{0x00000000, 0x00000000, 0x00000001, 0x00000000, 0x00000000}, same(under)},
		{single, 0x00000001, 0x7f7fffff, [5]uint32{0x00000000, 0x00000000, 0x00000001, 0x00000000, 0x00000000}, same(under)},
	} {
		r.holdDiv(t, "P6.1")
	}
}

// P6.1: subnormal numbers by one another, whose quotients are normal.
func TestDivSubnormals(t *testing.T) {
	for _, r := range []row{
		{half, 0x0001, 0x0001, same[uint32](0x3c00), same(none)},
		{half, 0x0003, 0x0002, same[uint32](0x3e00), same(none)},
		{half, 0x03ff, 0x0001, same[uint32](0x63fe), same(none)},
		{half, 0x0001, 0x0003, [5]uint32{0x3555, 0x3555, 0x3556, 0x3555, 0x3555}, same(inexact)},
		{brain, 0x0003, 0x0002, same[uint32](0x3fc0), same(none)},
		{brain, 0x0001, 0x0003, [5]uint32{0x3eab, 0x3eaa, 0x3eab, 0x3eaa, 0x3eab}, same(inexact)},
		{single, 0x00000003, 0x00000002, same[uint32](0x3fc00000), same(none)},
		{single, 0x007fffff, 0x00000001, same[uint32](0x4afffffe), same(none)},
		{single, 0x00000001, 0x00000003, [5]uint32{0x3eaaaaab, 0x3eaaaaaa, 0x3eaaaaab, 0x3eaaaaaa, 0x3eaaaaab}, same(inexact)},
	} {
		r.holdDiv(t, "P6.1")
	}
}
