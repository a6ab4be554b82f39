package whole

import (
	"math"
	"testing"

	"anneal/api"
)

// made is x made whole by a mode, by the machine's own floats, which have room for all.
func made(mode int, x float64) float64 {
	switch mode {
	case api.ToZero:
		return math.Trunc(x)
	case api.Up:
		return math.Ceil(x)
	case api.Down:
		return math.Floor(x)
	case api.NearAway:
		return math.Round(x)
	}
	return math.RoundToEven(x)
}

// holdMade holds Round and ToInt of a finite number in each mode against the machine's floats.
func (w layout) holdMade(t *testing.T, a uint32) {
	t.Helper()
	x := w.real(a)
	for _, mode := range modes() {
		m := made(mode, x)
		e := api.Exc{Inexact: m != x}
		w.holdRound(t, "P8.1", mode, a, answer{w.bits(m), e})
		want := integer{math.MinInt32, invalid}
		if m >= math.MinInt32 && m <= math.MaxInt32 {
			want = integer{int32(m), e}
		}
		w.holdToInt(t, "P8.1", mode, a, want)
	}
}

// P8.1: rows that are written out, in NearEven, ToZero, Up, Down, NearAway.
func TestRoundRows(t *testing.T) {
	for _, r := range []struct {
		w    layout
		a    uint32
		want [5]uint32
		x    api.Exc
	}{
		{single, 0x00000000, [5]uint32{}, none},
		{single, 0x80000000, [5]uint32{0x80000000, 0x80000000, 0x80000000, 0x80000000, 0x80000000}, none},
		{single, 0x00000001, [5]uint32{0, 0, 0x3f800000, 0, 0}, inexact},
		{single, 0x80000001, [5]uint32{0x80000000, 0x80000000, 0x80000000, 0xbf800000, 0x80000000}, inexact},
		{single, 0x807fffff, [5]uint32{0x80000000, 0x80000000, 0x80000000, 0xbf800000, 0x80000000}, inexact},
		{single, 0x3f000000, [5]uint32{0, 0, 0x3f800000, 0, 0x3f800000}, inexact},
		{single, 0xbf000000, [5]uint32{0x80000000, 0x80000000, 0x80000000, 0xbf800000, 0xbf800000}, inexact},
		{single, 0x3fc00000, [5]uint32{0x40000000, 0x3f800000, 0x40000000, 0x3f800000, 0x40000000}, inexact},
		{single, 0x40200000, [5]uint32{0x40000000, 0x40000000, 0x40400000, 0x40000000, 0x40400000}, inexact},
		{single, 0x3fa00000, [5]uint32{0x3f800000, 0x3f800000, 0x40000000, 0x3f800000, 0x3f800000}, inexact}, // 1.25
		{single, 0xbfe00000, [5]uint32{0xc0000000, 0xbf800000, 0xbf800000, 0xc0000000, 0xc0000000}, inexact}, // -1.75
		{single, 0x4affffff, [5]uint32{0x4b000000, 0x4afffffe, 0x4b000000, 0x4afffffe, 0x4b000000}, inexact},
		{single, 0x7f7fffff, [5]uint32{0x7f7fffff, 0x7f7fffff, 0x7f7fffff, 0x7f7fffff, 0x7f7fffff}, none},
		{half, 0x63ff, [5]uint32{0x6400, 0x63fe, 0x6400, 0x63fe, 0x6400}, inexact},
		{half, 0x8001, [5]uint32{0x8000, 0x8000, 0x8000, 0xbc00, 0x8000}, inexact},
		{half, 0x7bff, [5]uint32{0x7bff, 0x7bff, 0x7bff, 0x7bff, 0x7bff}, none},
		{half, 0x7c00, [5]uint32{0x7c00, 0x7c00, 0x7c00, 0x7c00, 0x7c00}, none},
		{half, 0xfc00, [5]uint32{0xfc00, 0xfc00, 0xfc00, 0xfc00, 0xfc00}, none},
		{brain, 0x3fc0, [5]uint32{0x4000, 0x3f80, 0x4000, 0x3f80, 0x4000}, inexact},
		{brain, 0x42ff, [5]uint32{0x4300, 0x42fe, 0x4300, 0x42fe, 0x4300}, inexact},
		{brain, 0xff7f, [5]uint32{0xff7f, 0xff7f, 0xff7f, 0xff7f, 0xff7f}, none},
	} {
		for mode, want := range r.want {
			r.w.holdRound(t, "P8.1", mode, r.a, answer{want, r.x})
		}
	}
}

// P8.1: each finite number of 16 bits, made whole.
func TestRoundOfEveryNumberOfSixteenBits(t *testing.T) {
	for _, w := range []layout{half, brain} {
		for size := range w.inf {
			w.holdMade(t, size)
			w.holdMade(t, w.sign|size)
		}
	}
}

// P8.1: numbers at each exponent's edges, in the formats that are none too, and some without a pattern.
func TestRoundOfEdges(t *testing.T) {
	for _, w := range layouts() {
		for _, a := range w.edges() {
			w.holdMade(t, a)
			w.holdMade(t, w.sign|a)
		}
		for _, a := range w.without(5000) {
			w.holdMade(t, a)
		}
	}
}

// P8.1: whole numbers, halves and quarters, and the numbers just beside them.
func TestRoundBesideHalves(t *testing.T) {
	for _, w := range []layout{half, brain, single} {
		for k := range 4 * 128 {
			a := w.bits(float64(k) / 4)
			for _, beside := range []uint32{max(a, 1) - 1, a, a + 1} {
				w.holdMade(t, beside)
				w.holdMade(t, w.sign|beside)
			}
		}
	}
}

// P8.1: infinities stay as they are; each NaN is the plain one, Invalid of a Signal one.
func TestRoundOfWhatIsNoNumber(t *testing.T) {
	for _, w := range layouts() {
		quiets, signals := w.nans()
		for _, mode := range modes() {
			for _, a := range []uint32{w.inf, w.sign | w.inf} {
				w.holdRound(t, "P8.1", mode, a, answer{a, none})
			}
			for _, a := range quiets {
				w.holdRound(t, "P8.1", mode, a, answer{w.quiet, none})
			}
			for _, a := range signals {
				w.holdRound(t, "P8.1", mode, a, answer{w.quiet, invalid})
			}
		}
	}
}

// P8.2: a number from a whole one that the format has is that one again, and itself.
func TestWholeNumbersStay(t *testing.T) {
	for _, w := range layouts() {
		step := int64(1) << (w.frac + 1)
		for v := -step; v <= step; v += max(1, step>>12-1) {
			for _, mode := range modes() {
				a, x := FromInt(w.f, mode, v)
				if x != none {
					t.Fatalf("P8.2: %s (%d): FromInt in mode %d of %d tells %+v", w.name, w.f, mode, v, x)
				}
				w.holdToInt(t, "P8.2", mode, a, integer{int32(v), none})
				w.holdRound(t, "P8.2", mode, a, answer{a, none})
			}
		}
	}
}

// P8.2: each whole number of the formats, and what was made whole, is itself in each mode.
func TestMadeWholeStays(t *testing.T) {
	for _, w := range layouts() {
		for _, a := range append(w.edges(), w.without(2000)...) {
			for _, mode := range modes() {
				is := w.real(a) == math.Trunc(w.real(a))
				b, x := Round(w.f, mode, a)
				if is && b != a || x.Inexact == is {
					t.Fatalf("P8.2: %s (%d): Round in mode %d of %#x is %#x, %+v", w.name, w.f, mode, a, b, x)
				}
				for _, again := range modes() {
					w.holdRound(t, "P8.2", again, b, answer{b, none})
				}
			}
		}
	}
}

// P8.2: ToInt's whole number is Round's: a number from it is the same but for a nought's sign.
func TestToIntAndRoundAgree(t *testing.T) {
	for _, w := range layouts() {
		for _, a := range append(w.edges(), w.without(2000)...) {
			for _, mode := range modes() {
				v, x := ToInt(w.f, mode, a)
				if x.Invalid {
					continue
				}
				b, y := Round(w.f, mode, a)
				if c, z := FromInt(w.f, mode, int64(v)); x != y || z != none || c != b && (v != 0 || b != w.sign) {
					t.Fatalf("P8.2: %s (%d): mode %d of %#x: ToInt is %d, %+v, Round %#x, %+v, FromInt %#x, %+v", w.name, w.f, mode, a, v, x, b, y, c, z)
				}
			}
		}
	}
}
