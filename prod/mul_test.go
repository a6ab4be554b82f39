package prod

import (
	"math"
	"testing"

	"anneal/api"
)

// P5.1: products that need no rounding are told as they are, with their sign.
func TestMulWhole(t *testing.T) {
	for _, r := range []row{
		{w: half, a: 0x4000, b: 0x4200, want: same[uint32](0x4600)},
		{w: half, a: 0x4200, b: 0x4400, want: same[uint32](0x4a00)},
		{w: half, a: 0x3e00, b: 0x3e00, want: same[uint32](0x4080)},
		{w: brain, a: 0x4000, b: 0x4040, want: same[uint32](0x40c0)},
		{w: brain, a: 0xbf80, b: 0x4040, want: same[uint32](0xc040)},
		{w: single, a: 0x40000000, b: 0x40400000, want: same[uint32](0x40c00000)},
		{w: single, a: 0xc0000000, b: 0xc0400000, want: same[uint32](0x40c00000)},
		{w: single, a: 0x40e00000, b: 0x41300000, want: same[uint32](0x429a0000)},
	} {
		r.holdMul(t, "P5.1")
	}
}

// P5.1: one, with either sign, leaves a number as it is, or turns its sign.
func TestMulByOne(t *testing.T) {
	for _, w := range layouts() {
		for _, mode := range modes() {
			for _, v := range w.edges() {
				w.holdMul(t, "P5.1", mode, v, w.one, answer{v: v})
				w.holdMul(t, "P5.1", mode, v, w.sign|w.one, answer{v: w.sign | v})
			}
		}
	}
}

// P5.1: what isn't a number makes the plain NaN, whatever the other one is;
// Invalid just if one is Signal, on whichever side.
func TestMulNans(t *testing.T) {
	for _, w := range layouts() {
		quiets, signals := w.nans()
		for _, mode := range modes() {
			for _, q := range quiets {
				for _, other := range append(w.numbers(), quiets...) {
					w.holdMul(t, "P5.1", mode, q, other, answer{v: w.quiet})
				}
			}
			for _, s := range signals {
				for _, other := range append(append(w.numbers(), quiets...), signals...) {
					w.holdMul(t, "P5.1", mode, s, other, answer{w.quiet, invalid})
				}
			}
		}
	}
}

// P5.1: an infinity makes the product one, with its sign; of a nought it is Invalid.
func TestMulInfinities(t *testing.T) {
	for _, w := range layouts() {
		for _, mode := range modes() {
			for _, i := range w.infinities() {
				for _, nought := range w.noughts() {
					w.holdMul(t, "P5.1", mode, i, nought, answer{w.quiet, invalid})
				}
				for _, v := range append(w.infinities(), w.edges()...) {
					if v == 0 {
						continue
					}
					w.holdMul(t, "P5.1", mode, i, v, answer{v: w.inf | (i^v)&w.sign})
					w.holdMul(t, "P5.1", mode, i, v^w.sign, answer{v: w.inf | (i^v^w.sign)&w.sign})
				}
			}
		}
	}
}

// P5.1: a nought makes the product one, with the product's sign, in each mode.
func TestMulNoughts(t *testing.T) {
	for _, w := range layouts() {
		for _, mode := range modes() {
			for _, v := range w.edges() {
				w.holdMul(t, "P5.1", mode, 0, v, answer{})
				w.holdMul(t, "P5.1", mode, w.sign, v, answer{v: w.sign})
			}
		}
	}
}

// P5.1: Halves at each exponent's edges, each with each.
func TestMulHalvesEachWithEach(t *testing.T) {
	edges := half.edges()
	for k, a := range edges {
		for _, b := range edges[:k+1] {
			half.holdProduct(t, "P5.1", a, b)
			half.holdProduct(t, "P5.1", a|half.sign, b)
		}
	}
}

// P5.1: each Half and each Brain number with a few.
func TestMulEveryNumberOfSixteenBits(t *testing.T) {
	for _, w := range []layout{half, brain} {
		for _, a := range []uint32{1, w.one / 2, w.sign | (w.one + 1), w.inf - 1} {
			for b := range w.inf {
				w.holdProduct(t, "P5.1", a, b)
			}
		}
	}
}

// P5.1: numbers with eight bits of exponent, at each exponent and without a pattern.
func TestMulAgainstTheExactProduct(t *testing.T) {
	for _, w := range []layout{brain, single} {
		for _, a := range append(w.some(), w.without(10)...) {
			for _, b := range w.edges() {
				w.holdProduct(t, "P5.1", a, b)
			}
		}
		l := w.without(150)
		for k, a := range l {
			for _, b := range l[:k+1] {
				w.holdProduct(t, "P5.1", a, b)
			}
		}
	}
}

// P5.1: Singles by the nearest are the machine's own.
func TestMulAgainstTheMachine(t *testing.T) {
	l := append(single.without(700), single.some()...)
	l = append(l, single.infinities()...)
	for _, a := range l {
		for _, b := range l {
			product := math.Float32frombits(a) * math.Float32frombits(b)
			want := math.Float32bits(product)
			if product != product {
				want = single.quiet
			}
			if got, _ := Mul(api.Single, api.NearEven, a, b); got != want {
				t.Fatalf("P5.1: %#x times %#x is %#x, not %#x", a, b, got, want)
			}
		}
	}
}

// P5.1: products that are between two numbers, and halfway between them.
func TestMulBetweenNumbers(t *testing.T) {
	for _, r := range []row{
		{half, 0x3c01, 0x3c01, 0, [5]uint32{0x3c02, 0x3c02, 0x3c03, 0x3c02, 0x3c02}, same(inexact)},
		{half, 0x3c01, 0x3e00, 0, [5]uint32{0x3e02, 0x3e01, 0x3e02, 0x3e01, 0x3e02}, same(inexact)}, // halfway
		{half, 0x3c03, 0x3e00, 0, [5]uint32{0x3e04, 0x3e04, 0x3e05, 0x3e04, 0x3e05}, same(inexact)}, // halfway
		{half, 0x3fff, 0x3fff, 0, [5]uint32{0x43fe, 0x43fe, 0x43ff, 0x43fe, 0x43fe}, same(inexact)},
		{brain, 0x3f81, 0x3fc0, 0, [5]uint32{0x3fc2, 0x3fc1, 0x3fc2, 0x3fc1, 0x3fc2}, same(inexact)},
		{brain, 0x3f83, 0x3fc0, 0, [5]uint32{0x3fc4, 0x3fc4, 0x3fc5, 0x3fc4, 0x3fc5}, same(inexact)},
		{single, 0x3f800001, 0x3f800001, 0, [5]uint32{0x3f800002, 0x3f800002, 0x3f800003, 0x3f800002, 0x3f800002}, same(inexact)},
		{single, 0x3f800001, 0x3fc00000, 0, [5]uint32{0x3fc00002, 0x3fc00001, 0x3fc00002, 0x3fc00001, 0x3fc00002}, same(inexact)},
		{single, 0x3f800003, 0x3fc00000, 0, [5]uint32{0x3fc00004, 0x3fc00004, 0x3fc00005, 0x3fc00004, 0x3fc00005}, same(inexact)},
	} {
		r.holdMul(t, "P5.1")
	}
}

// P5.1: products above the Greatest, at it and beside it.
func TestMulAboveTheGreatest(t *testing.T) {
	for _, r := range []row{
		{half, 0x7bff, 0x4000, 0, [5]uint32{0x7c00, 0x7bff, 0x7c00, 0x7bff, 0x7c00}, same(over)},
		{half, 0x7bff, 0x7bff, 0, [5]uint32{0x7c00, 0x7bff, 0x7c00, 0x7bff, 0x7c00}, same(over)},
		{half, 0x5bff, 0x5c00, 0, same[uint32](0x7bff), same(none)},
		{half, 0x5c00, 0x5c00, 0, [5]uint32{0x7c00, 0x7bff, 0x7c00, 0x7bff, 0x7c00}, same(over)},
		{half, 0x7bff, 0x3c01, 0, [5]uint32{0x7c00, 0x7bff, 0x7c00, 0x7bff, 0x7c00}, same(over)},
		{half, 0x644c, 0x5372, 0, [5]uint32{0x7bff, 0x7bff, 0x7c00, 0x7bff, 0x7bff}, [5]api.Exc{inexact, inexact, over, inexact, inexact}}, // 65518.75
		{half, 0x6410, 0x53e0, 0, [5]uint32{0x7c00, 0x7bff, 0x7c00, 0x7bff, 0x7c00}, [5]api.Exc{over, inexact, over, inexact, over}},       // 65520, halfway
		{brain, 0x7f7f, 0x7f7f, 0, [5]uint32{0x7f80, 0x7f7f, 0x7f80, 0x7f7f, 0x7f80}, same(over)},
		{brain, 0x7e7f, 0x4080, 0, same[uint32](0x7f7f), same(none)},
		{single, 0x7f7fffff, 0x40000000, 0, [5]uint32{0x7f800000, 0x7f7fffff, 0x7f800000, 0x7f7fffff, 0x7f800000}, same(over)},
		{single, 0x7f7fffff, 0x7f7fffff, 0, [5]uint32{0x7f800000, 0x7f7fffff, 0x7f800000, 0x7f7fffff, 0x7f800000}, same(over)},
		{single, 0x7e7fffff, 0x40800000, 0, same[uint32](0x7f7fffff), same(none)},
	} {
		r.holdMul(t, "P5.1")
	}
}

// P5.1: products below the least normal number, at half of the least number and
// beside it; Under just where they are Inexact as well.
func TestMulBelowTheLeastNormal(t *testing.T) {
	for _, r := range []row{
		{half, 0x0400, 0x3800, 0, same[uint32](0x0200), same(none)},
		{half, 0x0001, 0x4000, 0, same[uint32](0x0002), same(none)},
		{half, 0x0401, 0x3800, 0, [5]uint32{0x0200, 0x0200, 0x0201, 0x0200, 0x0201}, same(under)},
		{half, 0x07ff, 0x3800, 0, [5]uint32{0x0400, 0x03ff, 0x0400, 0x03ff, 0x0400}, same(under)}, // up to the least normal one
		{half, 0x0001, 0x3800, 0, [5]uint32{0x0000, 0x0000, 0x0001, 0x0000, 0x0001}, same(under)},
		{half, 0x0001, 0x3801, 0, [5]uint32{0x0001, 0x0000, 0x0001, 0x0000, 0x0001}, same(under)},
		{half, 0x0001, 0x37ff, 0, [5]uint32{0x0000, 0x0000, 0x0001, 0x0000, 0x0000}, same(under)},
		{half, 0x0003, 0x3800, 0, [5]uint32{0x0002, 0x0001, 0x0002, 0x0001, 0x0002}, same(under)},
		{half, 0x0001, 0x0001, 0, [5]uint32{0x0000, 0x0000, 0x0001, 0x0000, 0x0000}, same(under)},
		{brain, 0x0080, 0x3f00, 0, same[uint32](0x0040), same(none)},
		{brain, 0x0001, 0x3f00, 0, [5]uint32{0x0000, 0x0000, 0x0001, 0x0000, 0x0001}, same(under)},
		{brain, 0x0001, 0x0001, 0, [5]uint32{0x0000, 0x0000, 0x0001, 0x0000, 0x0000}, same(under)},
		{single, 0x00800000, 0x3f000000, 0, same[uint32](0x00400000), same(none)},
		{single, 0x00800001, 0x3f000000, 0, [5]uint32{0x00400000, 0x00400000, 0x00400001, 0x00400000, 0x00400001}, same(under)},
		{single, 0x00ffffff, 0x3f000000, 0, [5]uint32{0x00800000, 0x007fffff, 0x00800000, 0x007fffff, 0x00800000}, same(under)},
		{single, 0x00000001, 0x3f000000, 0, [5]uint32{0x00000000, 0x00000000, 0x00000001, 0x00000000, 0x00000001}, same(under)},
		{single, 0x00000001, 0x00000001, 0, [5]uint32{0x00000000, 0x00000000, 0x00000001, 0x00000000, 0x00000000}, same(under)},
	} {
		r.holdMul(t, "P5.1")
	}
}
