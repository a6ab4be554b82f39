package prod

import (
	"math"
	"testing"

	"anneal/api"
	"anneal/sum"
)

// P5.3: what a product has below a step decides, though a rounded product has lost it.
func TestOneRounding(t *testing.T) {
	for _, r := range []row{
		// (1 + 2^-10)^2 is 1 + 2^-9 + 2^-20; (1 + 2^-10)(1 - 2^-10) is 1 - 2^-20
		{half, 0x3c01, 0x3c01, 0xbc00, [5]uint32{0x1800, 0x1800, 0x1801, 0x1800, 0x1801}, same(inexact)}, // halfway
		{half, 0x3c01, 0x3c01, 0xbc02, same[uint32](0x0010), same(none)},
		{half, 0x3c01, 0x3bfe, 0xbc00, same[uint32](0x8010), same(none)},
		// at 2048 a step is 2: 1 is halfway, and so would be a product that was rounded to 1 apart
		{half, 0x3c01, 0x3bff, 0x6800, [5]uint32{0x6801, 0x6800, 0x6801, 0x6800, 0x6801}, same(inexact)},
		{half, 0x3c01, 0x3bfe, 0x6800, [5]uint32{0x6800, 0x6800, 0x6801, 0x6800, 0x6800}, same(inexact)},
		{half, 0x3c01, 0x3bfe, 0x6801, [5]uint32{0x6801, 0x6801, 0x6802, 0x6801, 0x6801}, same(inexact)},
		{half, 0xbc01, 0x3bfe, 0x6801, [5]uint32{0x6801, 0x6800, 0x6801, 0x6800, 0x6801}, same(inexact)},
		{brain, 0x3f81, 0x3f81, 0xbf80, [5]uint32{0x3c80, 0x3c80, 0x3c81, 0x3c80, 0x3c81}, same(inexact)}, // halfway
		{brain, 0x3f81, 0x3f7e, 0xbf80, same[uint32](0xb880), same(none)},
		{single, 0x3f800001, 0x3f800001, 0xbf800000, [5]uint32{0x34800000, 0x34800000, 0x34800001, 0x34800000, 0x34800001}, same(inexact)}, // halfway
		{single, 0x3f800001, 0x3f7ffffe, 0xbf800000, same[uint32](0xa8800000), same(none)},
		{single, 0x3f800001, 0x3f800001, 0xbf800002, same[uint32](0x28800000), same(none)},
		{single, 0x3f800001, 0x3f7ffffe, 0x4b800000, [5]uint32{0x4b800000, 0x4b800000, 0x4b800001, 0x4b800000, 0x4b800000}, same(inexact)},
		{single, 0x3f800001, 0x3f7fffff, 0x4b800000, [5]uint32{0x4b800001, 0x4b800000, 0x4b800001, 0x4b800000, 0x4b800001}, same(inexact)},
		// (2^20 - 1)(2^20 + 1) is 2^40 - 1: all ones, so that what is left is 1 above half a step, and above a step's end
		{single, 0xc97ffff0, 0x49800008, 0x5f800001, [5]uint32{0x5f800001, 0x5f800000, 0x5f800001, 0x5f800000, 0x5f800001}, same(inexact)},
		{single, 0xc97ffff0, 0x49800008, 0x5f000001, [5]uint32{0x5f000000, 0x5f000000, 0x5f000001, 0x5f000000, 0x5f000000}, same(inexact)},
	} {
		r.holdFma(t, "P5.3")
	}
}

// P5.3: products that are subnormal ahead of their sum, or below the least
// number, keep what they have below it.
func TestSubnormalAheadOfTheSum(t *testing.T) {
	for _, r := range []row{
		{half, 0x0001, 0x3800, 0x0001, [5]uint32{0x0002, 0x0001, 0x0002, 0x0001, 0x0002}, same(under)}, // one and a half
		{half, 0x0001, 0x3800, 0x8001, [5]uint32{0x8000, 0x8000, 0x8000, 0x8001, 0x8001}, same(under)}, // a half, below nought
		{half, 0x0001, 0x3801, 0x8001, [5]uint32{0x8000, 0x8000, 0x8000, 0x8001, 0x8000}, same(under)},
		{half, 0x0001, 0x37ff, 0x8001, [5]uint32{0x8001, 0x8000, 0x8000, 0x8001, 0x8001}, same(under)},
		{half, 0x0001, 0x3800, 0x03ff, [5]uint32{0x0400, 0x03ff, 0x0400, 0x03ff, 0x0400}, same(under)},
		{half, 0x0001, 0x3800, 0x0400, [5]uint32{0x0400, 0x0400, 0x0401, 0x0400, 0x0401}, same(inexact)},
		{half, 0x0001, 0x3800, 0x8400, [5]uint32{0x8400, 0x83ff, 0x83ff, 0x8400, 0x8400}, same(under)},
		{half, 0x0003, 0x3800, 0x3c00, [5]uint32{0x3c00, 0x3c00, 0x3c01, 0x3c00, 0x3c00}, same(inexact)},
		{half, 0x0401, 0x3800, 0x8200, [5]uint32{0x0000, 0x0000, 0x0001, 0x0000, 0x0001}, same(under)},
		{half, 0x0401, 0x3c01, 0x8402, [5]uint32{0x0000, 0x0000, 0x0001, 0x0000, 0x0000}, same(under)},
		{brain, 0x0001, 0x3f00, 0x0001, [5]uint32{0x0002, 0x0001, 0x0002, 0x0001, 0x0002}, same(under)},
		{brain, 0x0001, 0x3f00, 0x8001, [5]uint32{0x8000, 0x8000, 0x8000, 0x8001, 0x8001}, same(under)},
		{single, 0x00000001, 0x3f000000, 0x00000001, [5]uint32{0x00000002, 0x00000001, 0x00000002, 0x00000001, 0x00000002}, same(under)},
		{single, 0x00000001, 0x3f000000, 0x80000001, [5]uint32{0x80000000, 0x80000000, 0x80000000, 0x80000001, 0x80000001}, same(under)},
		{single, 0x00000001, 0x3f000000, 0x007fffff, [5]uint32{0x00800000, 0x007fffff, 0x00800000, 0x007fffff, 0x00800000}, same(under)},
		{single, 0x00000003, 0x3f000000, 0x80000002, [5]uint32{0x80000000, 0x80000000, 0x80000000, 0x80000001, 0x80000001}, same(under)},
	} {
		r.holdFma(t, "P5.3")
	}
}

// P5.3: a product so far below the third number, or above it, that only its sign is to be seen.
func TestFarApart(t *testing.T) {
	for _, r := range []row{
		{half, 0x0001, 0x0001, 0x3c00, [5]uint32{0x3c00, 0x3c00, 0x3c01, 0x3c00, 0x3c00}, same(inexact)},
		{half, 0x0001, 0x8001, 0x3c00, [5]uint32{0x3c00, 0x3bff, 0x3c00, 0x3bff, 0x3c00}, same(inexact)},
		{half, 0x0001, 0x0001, 0x0001, [5]uint32{0x0001, 0x0001, 0x0002, 0x0001, 0x0001}, same(under)},
		{half, 0x0001, 0x8001, 0x0001, [5]uint32{0x0001, 0x0000, 0x0001, 0x0000, 0x0001}, same(under)},
		{half, 0x0001, 0x8001, 0x0400, [5]uint32{0x0400, 0x03ff, 0x0400, 0x03ff, 0x0400}, same(under)},
		{half, 0x0001, 0x0001, 0x7bff, [5]uint32{0x7bff, 0x7bff, 0x7c00, 0x7bff, 0x7bff}, [5]api.Exc{inexact, inexact, over, inexact, inexact}},
		{half, 0x0001, 0x8001, 0x7bff, [5]uint32{0x7bff, 0x7bfe, 0x7bff, 0x7bfe, 0x7bff}, same(inexact)},
		{half, 0x5c00, 0x5800, 0x0001, [5]uint32{0x7800, 0x7800, 0x7801, 0x7800, 0x7800}, same(inexact)},
		{half, 0x5c00, 0x5800, 0x8001, [5]uint32{0x7800, 0x77ff, 0x7800, 0x77ff, 0x7800}, same(inexact)},
		{brain, 0x0001, 0x0001, 0x7f7f, [5]uint32{0x7f7f, 0x7f7f, 0x7f80, 0x7f7f, 0x7f7f}, [5]api.Exc{inexact, inexact, over, inexact, inexact}},
		{brain, 0x0001, 0x8001, 0x0001, [5]uint32{0x0001, 0x0000, 0x0001, 0x0000, 0x0001}, same(under)},
		{single, 0x00000001, 0x00000001, 0x3f800000, [5]uint32{0x3f800000, 0x3f800000, 0x3f800001, 0x3f800000, 0x3f800000}, same(inexact)},
		{single, 0x00000001, 0x80000001, 0x3f800000, [5]uint32{0x3f800000, 0x3f7fffff, 0x3f800000, 0x3f7fffff, 0x3f800000}, same(inexact)},
		{single, 0x00000001, 0x80000001, 0x7f7fffff, [5]uint32{0x7f7fffff, 0x7f7ffffe, 0x7f7fffff, 0x7f7ffffe, 0x7f7fffff}, same(inexact)},
		{single, 0x3f800000, 0x7f7fffff, 0x00000001, [5]uint32{0x7f7fffff, 0x7f7fffff, 0x7f800000, 0x7f7fffff, 0x7f7fffff}, [5]api.Exc{inexact, inexact, over, inexact, inexact}},
	} {
		r.holdFma(t, "P5.3")
	}
}

// P5.3: a product above the Greatest comes back below it, if the third number
// takes enough away; else it stays above.
func TestAboveTheGreatestAheadOfTheSum(t *testing.T) {
	for _, r := range []row{
		{half, 0x7bff, 0x4000, 0xfbff, same[uint32](0x7bff), same(none)},
		{half, 0x7bff, 0x4000, 0xfbfe, [5]uint32{0x7c00, 0x7bff, 0x7c00, 0x7bff, 0x7c00}, same(over)},
		{half, 0x7bff, 0x4000, 0x3c00, [5]uint32{0x7c00, 0x7bff, 0x7c00, 0x7bff, 0x7c00}, same(over)},
		{half, 0x5c00, 0x5c00, 0xcc00, [5]uint32{0x7c00, 0x7bff, 0x7c00, 0x7bff, 0x7c00}, [5]api.Exc{over, inexact, over, inexact, over}},
		{half, 0x5c00, 0x5c00, 0xcc01, [5]uint32{0x7bff, 0x7bff, 0x7c00, 0x7bff, 0x7bff}, [5]api.Exc{inexact, inexact, over, inexact, inexact}},
		{half, 0x5c00, 0x5c00, 0xd000, same[uint32](0x7bff), same(none)},
		{half, 0x5c00, 0x5c00, 0x8001, [5]uint32{0x7c00, 0x7bff, 0x7c00, 0x7bff, 0x7c00}, [5]api.Exc{over, inexact, over, inexact, over}},
		{brain, 0x7f7f, 0x4000, 0xff7f, same[uint32](0x7f7f), same(none)},
		{brain, 0x7f7f, 0x7f7f, 0xff7f, [5]uint32{0x7f80, 0x7f7f, 0x7f80, 0x7f7f, 0x7f80}, same(over)},
		{single, 0x7f7fffff, 0x40000000, 0xff7fffff, same[uint32](0x7f7fffff), same(none)},
		{single, 0x7f7fffff, 0x40000000, 0xff7ffffe, [5]uint32{0x7f800000, 0x7f7fffff, 0x7f800000, 0x7f7fffff, 0x7f800000}, same(over)},
		{single, 0x7f7fffff, 0x7f7fffff, 0xff7fffff, [5]uint32{0x7f800000, 0x7f7fffff, 0x7f800000, 0x7f7fffff, 0x7f800000}, same(over)},
		{single, 0x5f800000, 0x5f800000, 0x80000001, [5]uint32{0x7f800000, 0x7f7fffff, 0x7f800000, 0x7f7fffff, 0x7f800000}, [5]api.Exc{over, inexact, over, inexact, over}},
	} {
		r.holdFma(t, "P5.3")
	}
}

// P5.3: there are many numbers of which a product that is rounded apart makes
// another answer; Fma's are the exact ones.
func TestTwoRoundingsAreOthers(t *testing.T) {
	for _, w := range layouts() {
		l := w.without(300)
		others := 0
		for k, b := range l {
			near := w.one | b&(1<<w.frac-1)
			for _, c := range []uint32{w.sign | w.one, w.one + 1, w.one + 3<<w.frac, w.one + 5<<w.frac + 1} {
				a := w.one | l[(k+1)%len(l)]&(1<<w.frac-1)
				w.holdTogether(t, "P5.3", a, near, c)
				product, _ := Mul(w.f, api.NearEven, a, near)
				twice, _ := sum.Add(w.f, api.NearEven, product, c)
				if once, _ := Fma(w.f, api.NearEven, a, near, c); once != twice {
					others++
				}
			}
		}
		if others < 100 {
			t.Fatalf("P5.3: %s: only %d are others", w.name, others)
		}
	}
}

// wrongs are numbers of all kinds.
func (w layout) wrongs() []uint32 {
	quiets, signals := w.nans()
	l := append(w.numbers(), w.without(12)...)
	return append(l, quiets[0], quiets[3], signals[0], signals[5])
}

// P5.1, P5.2: formats beyond the three count as Single.
func TestOtherFormats(t *testing.T) {
	l := single.wrongs()
	for _, f := range []int{3, -1, 255, 1 << 32, math.MaxInt, math.MinInt} {
		for _, mode := range modes() {
			for _, a := range l {
				for _, b := range l {
					if got, want := mul(f, mode, a, b), mul(api.Single, mode, a, b); got != want {
						t.Fatalf("P5.1: Mul in format %d, mode %d of %#x, %#x is %+v, not %+v", f, mode, a, b, got, want)
					}
					for _, c := range l {
						if got, want := fma(f, mode, a, b, c), fma(api.Single, mode, a, b, c); got != want {
							t.Fatalf("P5.2: Fma in format %d, mode %d of %#x, %#x, %#x is %+v, not %+v", f, mode, a, b, c, got, want)
						}
					}
				}
			}
		}
	}
}

// P5.1, P5.2: bits above a format's say nothing, and none are answered.
func TestBitsAboveAFormats(t *testing.T) {
	for _, w := range []layout{half, brain} {
		l := w.wrongs()
		for _, mode := range modes() {
			for _, a := range l {
				for _, b := range l {
					w.holdMul(t, "P5.1", mode, a|0xffff0000, b|0xa5a50000, mul(w.f, mode, a, b))
					for _, c := range l {
						want := fma(w.f, mode, a, b, c)
						if want.v&^w.mask != 0 {
							t.Fatalf("P5.2: %s: Fma in mode %d of %#x, %#x, %#x is %#x", w.name, mode, a, b, c, want.v)
						}
						w.holdFma(t, "P5.2", mode, a|0x10000, b, c|0x80000000, want)
						w.holdFma(t, "P5.2", mode, a|0xffff0000, b|0xa5a50000, c|0x5a5a0000, want)
					}
				}
			}
		}
	}
}
