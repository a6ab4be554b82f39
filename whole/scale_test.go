package whole

import (
	"math"
	"math/big"
	"testing"

	"anneal/api"
)

// holdScaled holds a finite number's Scale in each mode against what package big rounds.
func (w layout) holdScaled(t *testing.T, a uint32, n int) {
	t.Helper()
	x := new(big.Float).SetMantExp(big.NewFloat(w.real(a)), min(max(n, -5000), 5000))
	for _, mode := range modes() {
		want := answer{a, none}
		if x.Sign() != 0 {
			want = w.rounded(mode, x)
		}
		w.holdScale(t, "P8.1", mode, a, n, want)
	}
}

// P8.1: rows that are written out, in NearEven, ToZero, Up, Down, NearAway.
func TestScaleRows(t *testing.T) {
	for _, r := range []struct {
		w    layout
		a    uint32
		n    int
		want [5]uint32
		x    api.Exc
	}{
		{single, 0x3f800000, 0, [5]uint32{0x3f800000, 0x3f800000, 0x3f800000, 0x3f800000, 0x3f800000}, none},
		{single, 0x40490fdb, 10, [5]uint32{0x45490fdb, 0x45490fdb, 0x45490fdb, 0x45490fdb, 0x45490fdb}, none},
		{single, 0xc0490fdb, -1, [5]uint32{0xbfc90fdb, 0xbfc90fdb, 0xbfc90fdb, 0xbfc90fdb, 0xbfc90fdb}, none},
		{single, 0x3f800000, -126, [5]uint32{0x00800000, 0x00800000, 0x00800000, 0x00800000, 0x00800000}, none},
		{single, 0x3f800001, -127, [5]uint32{0x00400000, 0x00400000, 0x00400001, 0x00400000, 0x00400001}, under},
		{single, 0xbf800003, -127, [5]uint32{0x80400002, 0x80400001, 0x80400001, 0x80400002, 0x80400002}, under},
		{single, 0x3fffffff, -127, [5]uint32{0x00800000, 0x007fffff, 0x00800000, 0x007fffff, 0x00800000}, under},
		{single, 0x3f800000, -149, [5]uint32{1, 1, 1, 1, 1}, none},
		{single, 0x3f800000, -150, [5]uint32{0, 0, 1, 0, 1}, under},
		{single, 0xbf800000, -150, [5]uint32{0x80000000, 0x80000000, 0x80000000, 0x80000001, 0x80000001}, under},
		{single, 0x3f800001, -150, [5]uint32{1, 0, 1, 0, 1}, under},
		{single, 0x3f800000, -151, [5]uint32{0, 0, 1, 0, 0}, under},
		{single, 0x00000001, -1, [5]uint32{0, 0, 1, 0, 1}, under},
		{single, 0x00000001, 149, [5]uint32{0x3f800000, 0x3f800000, 0x3f800000, 0x3f800000, 0x3f800000}, none},
		{single, 0x807fffff, 1, [5]uint32{0x80fffffe, 0x80fffffe, 0x80fffffe, 0x80fffffe, 0x80fffffe}, none},
		{single, 0x3f800000, 127, [5]uint32{0x7f000000, 0x7f000000, 0x7f000000, 0x7f000000, 0x7f000000}, none},
		{single, 0x3f800000, 128, [5]uint32{0x7f800000, 0x7f7fffff, 0x7f800000, 0x7f7fffff, 0x7f800000}, over},
		{single, 0xff7fffff, 1, [5]uint32{0xff800000, 0xff7fffff, 0xff7fffff, 0xff800000, 0xff800000}, over},
		{single, 0x7f7fffff, -276, [5]uint32{2, 1, 2, 1, 2}, under},
		{half, 0x3c00, 15, [5]uint32{0x7800, 0x7800, 0x7800, 0x7800, 0x7800}, none},
		{half, 0x3c00, 16, [5]uint32{0x7c00, 0x7bff, 0x7c00, 0x7bff, 0x7c00}, over},
		{half, 0x3c01, -15, [5]uint32{0x0200, 0x0200, 0x0201, 0x0200, 0x0201}, under},
		{half, 0x8001, 24, [5]uint32{0xbc00, 0xbc00, 0xbc00, 0xbc00, 0xbc00}, none},
		{brain, 0x0001, 133, [5]uint32{0x3f80, 0x3f80, 0x3f80, 0x3f80, 0x3f80}, none},
		{brain, 0xbf83, -127, [5]uint32{0x8042, 0x8041, 0x8041, 0x8042, 0x8042}, under},
		{brain, 0x7f7f, 1, [5]uint32{0x7f80, 0x7f7f, 0x7f80, 0x7f7f, 0x7f80}, over},
	} {
		for mode, want := range r.want {
			r.w.holdScale(t, "P8.1", mode, r.a, r.n, answer{want, r.x})
		}
	}
}

// powers are what numbers are scaled by: to noughts, subnormals and infinities, and not at all.
func (w layout) powers() []int {
	span := w.low + int(w.inf>>w.frac) // from the least number to above the greatest one
	return []int{-span - 1, -span, -span + 1, -w.low - 1, -w.low, -w.low + 1, -w.frac - 1, -w.frac, -w.frac + 1, -2, -1, 0, 1, 2, w.frac, w.low - 1, w.low, w.low + 1, span - 1, span}
}

// P8.1: numbers at each exponent's edges, scaled within the format and out of it.
func TestScaleOfEdges(t *testing.T) {
	for _, w := range []layout{half, brain, single} {
		for i, a := range w.edges() {
			for k, n := range w.powers() {
				if i%3 == k%3 || w.f == api.Half {
					w.holdScaled(t, a, n)
					w.holdScaled(t, w.sign|a, n)
				}
			}
		}
	}
}

// P8.1: numbers without a pattern, in the formats that are none too, scaled to around the least normal and the greatest one.
func TestScaleToTheEnds(t *testing.T) {
	for _, w := range layouts() {
		for _, a := range append(w.without(200), 0, w.sign, 1, w.sign|1, w.one, w.inf-1, w.sign|(w.inf-1)) {
			_, e := math.Frexp(w.real(a))
			for d := -3; d <= 3; d++ {
				w.holdScaled(t, a, d-w.low-e)
				w.holdScaled(t, a, d+w.frac-w.low-e)
				w.holdScaled(t, a, d+int(w.inf>>w.frac)-w.low+w.frac-e)
			}
		}
	}
}

// P8.1: n is taken as -5000 to 5000: there are noughts and infinities, however far beyond it is.
func TestScaleByFarPowers(t *testing.T) {
	for _, w := range layouts() {
		for _, n := range []int{300, 400, 4999, 5000, 5001, 9999, 10000, 10001, 1 << 20, 1 << 32, 1 << 62, math.MaxInt - 200, math.MaxInt - 1, math.MaxInt} {
			for _, a := range []uint32{0, 1, 2, w.one - 1, w.one, w.one + 1, w.inf - 1} {
				for _, v := range []uint32{a, w.sign | a} {
					w.holdScaled(t, v, n)
					w.holdScaled(t, v, -n)
					w.holdScaled(t, v, -n-1)
				}
			}
		}
	}
}

// P8.1: noughts and infinities stay as they are; each NaN is the plain one, Invalid of a Signal one.
func TestScaleOfWhatHasNoSize(t *testing.T) {
	for _, w := range layouts() {
		quiets, signals := w.nans()
		for _, n := range append(w.powers(), -5000, 5000, math.MaxInt, math.MinInt) {
			for _, mode := range modes() {
				for _, a := range []uint32{0, w.sign, w.inf, w.sign | w.inf} {
					w.holdScale(t, "P8.1", mode, a, n, answer{a, none})
				}
				for _, a := range quiets {
					w.holdScale(t, "P8.1", mode, a, n, answer{w.quiet, none})
				}
				for _, a := range signals {
					w.holdScale(t, "P8.1", mode, a, n, answer{w.quiet, invalid})
				}
			}
		}
	}
}

// P8.1: Singles are scaled as the machine's floats are, rounded once.
func TestScaleAsTheMachines(t *testing.T) {
	for i, a := range single.without(100000) {
		n := i%601 - 300
		x := math.Ldexp(float64(math.Float32frombits(a)), n) // a wider float loses nothing of it
		want := float32(x)
		got, e := Scale(api.Single, api.NearEven, a, n)
		left := float64(want) != x
		if got != math.Float32bits(want) || e.Inexact != left || e.Over != math.IsInf(float64(want), 0) {
			t.Fatalf("P8.1: Scale of %#x by %d is %#x, %+v, the machine's is %#x", a, n, got, e, math.Float32bits(want))
		}
	}
}

// P8.2: by whole powers, and not below, a whole number stays whole.
func TestScaledWholeNumbersStayWhole(t *testing.T) {
	for _, w := range layouts() {
		for v := int64(-200); v <= 200; v++ {
			for n := range 8 {
				for _, mode := range modes() {
					a, _ := FromInt(w.f, mode, v)
					b, x := Scale(w.f, mode, a, n)
					if x != none {
						t.Fatalf("P8.2: %s (%d): Scale in mode %d of %#x by %d tells %+v", w.name, w.f, mode, a, n, x)
					}
					w.holdToInt(t, "P8.2", mode, b, integer{int32(v << n), none})
					w.holdScale(t, "P8.2", mode, b, -n, answer{a, none})
				}
			}
		}
	}
}
