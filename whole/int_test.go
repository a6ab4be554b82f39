package whole

import (
	"math"
	"math/big"
	"testing"

	"anneal/api"
)

// holdExactInt holds v's number in each mode against what package big rounds.
func (w layout) holdExactInt(t *testing.T, v int64) {
	t.Helper()
	for _, mode := range modes() {
		want := answer{}
		if v != 0 {
			want = w.rounded(mode, new(big.Float).SetInt64(v))
		}
		w.holdInt(t, "P8.1", mode, v, want)
	}
}

// P8.1: rows that are written out, in NearEven, ToZero, Up, Down, NearAway.
func TestFromIntRows(t *testing.T) {
	for _, r := range []struct {
		w    layout
		v    int64
		want [5]uint32
		x    api.Exc
	}{
		{single, 0, [5]uint32{}, none},
		{single, 1, [5]uint32{0x3f800000, 0x3f800000, 0x3f800000, 0x3f800000, 0x3f800000}, none},
		{single, -1, [5]uint32{0xbf800000, 0xbf800000, 0xbf800000, 0xbf800000, 0xbf800000}, none},
		{single, 1<<24 - 1, [5]uint32{0x4b7fffff, 0x4b7fffff, 0x4b7fffff, 0x4b7fffff, 0x4b7fffff}, none},
		{single, 1<<24 + 1, [5]uint32{0x4b800000, 0x4b800000, 0x4b800001, 0x4b800000, 0x4b800001}, inexact},
		{single, -1<<24 - 1, [5]uint32{0xcb800000, 0xcb800000, 0xcb800000, 0xcb800001, 0xcb800001}, inexact},
		{single, 1<<24 + 3, [5]uint32{0x4b800002, 0x4b800001, 0x4b800002, 0x4b800001, 0x4b800002}, inexact},
		{single, 1<<25 + 1, [5]uint32{0x4c000000, 0x4c000000, 0x4c000001, 0x4c000000, 0x4c000000}, inexact},
		{single, 1<<25 + 3, [5]uint32{0x4c000001, 0x4c000000, 0x4c000001, 0x4c000000, 0x4c000001}, inexact},
		{single, math.MaxInt64, [5]uint32{0x5f000000, 0x5effffff, 0x5f000000, 0x5effffff, 0x5f000000}, inexact},
		{single, math.MinInt64, [5]uint32{0xdf000000, 0xdf000000, 0xdf000000, 0xdf000000, 0xdf000000}, none},
		{single, math.MinInt64 + 1, [5]uint32{0xdf000000, 0xdeffffff, 0xdeffffff, 0xdf000000, 0xdf000000}, inexact},
		{single, math.MaxInt32, [5]uint32{0x4f000000, 0x4effffff, 0x4f000000, 0x4effffff, 0x4f000000}, inexact},
		{single, math.MinInt32, [5]uint32{0xcf000000, 0xcf000000, 0xcf000000, 0xcf000000, 0xcf000000}, none},
		{half, 0, [5]uint32{}, none},
		{half, 2049, [5]uint32{0x6800, 0x6800, 0x6801, 0x6800, 0x6801}, inexact},
		{half, 65504, [5]uint32{0x7bff, 0x7bff, 0x7bff, 0x7bff, 0x7bff}, none},
		{half, 65536, [5]uint32{0x7c00, 0x7bff, 0x7c00, 0x7bff, 0x7c00}, over},
		{half, -65536, [5]uint32{0xfc00, 0xfbff, 0xfbff, 0xfc00, 0xfc00}, over},
		{half, math.MaxInt64, [5]uint32{0x7c00, 0x7bff, 0x7c00, 0x7bff, 0x7c00}, over},
		{half, math.MinInt64, [5]uint32{0xfc00, 0xfbff, 0xfbff, 0xfc00, 0xfc00}, over},
		{brain, 256, [5]uint32{0x4380, 0x4380, 0x4380, 0x4380, 0x4380}, none},
		{brain, 257, [5]uint32{0x4380, 0x4380, 0x4381, 0x4380, 0x4381}, inexact},
		{brain, -259, [5]uint32{0xc382, 0xc381, 0xc381, 0xc382, 0xc382}, inexact},
		{brain, math.MaxInt64, [5]uint32{0x5f00, 0x5eff, 0x5f00, 0x5eff, 0x5f00}, inexact},
		{brain, math.MinInt64, [5]uint32{0xdf00, 0xdf00, 0xdf00, 0xdf00, 0xdf00}, none},
	} {
		for mode, want := range r.want {
			r.w.holdInt(t, "P8.1", mode, r.v, answer{want, r.x})
		}
	}
}

// P8.1: between the greatest number and the next power of 2 it is the mode that tells what is Over.
func TestFromIntAboveTheGreatest(t *testing.T) {
	most, beyond, cut := answer{0x7bff, inexact}, answer{0x7c00, over}, answer{0x7bff, over}
	for _, r := range []struct {
		v    int64
		want [5]answer
	}{
		{65505, [5]answer{most, most, beyond, most, most}},
		{65519, [5]answer{most, most, beyond, most, most}},
		{65520, [5]answer{beyond, most, beyond, most, beyond}},
		{65535, [5]answer{beyond, most, beyond, most, beyond}},
		{65536, [5]answer{beyond, cut, beyond, cut, beyond}},
	} {
		for mode, want := range r.want {
			half.holdInt(t, "P8.1", mode, r.v, want)
		}
	}
}

// P8.1: around each power of 2 and each middle between two numbers, of either sign.
func TestFromIntEdges(t *testing.T) {
	for _, w := range layouts() {
		for e := range 64 {
			for _, by := range []int{64, e - w.frac - 2, e - w.frac - 1, e - w.frac, e - w.frac + 1} {
				at := uint64(1) << e
				if by >= 0 {
					at += 1 << by
				}
				for d := -2; d <= 2; d++ {
					v := int64(at) + int64(d) // beyond int64 it goes round, and is another edge
					w.holdExactInt(t, v)
					w.holdExactInt(t, -v)
				}
			}
		}
		for _, v := range []int64{0, math.MaxInt64, math.MaxInt64 - 1, math.MinInt64, math.MinInt64 + 1} {
			w.holdExactInt(t, v)
		}
	}
}

// P8.1: each whole number to beyond Half's greatest, of either sign.
func TestFromIntOfSmallOnes(t *testing.T) {
	for _, w := range []layout{half, brain, single} {
		for v := int64(-66000); v <= 66000; v += 7 {
			w.holdExactInt(t, v)
		}
		for v := int64(-5000); v <= 5000; v++ {
			w.holdExactInt(t, v)
		}
	}
}

// P8.1: Singles are made as the machine makes its own.
func TestFromIntAsTheMachines(t *testing.T) {
	v := uint64(0x2545f4914f6cdd1d)
	for i := range 200000 {
		v ^= v << 13
		v ^= v >> 7
		v ^= v << 17
		k := int64(v) >> (i % 64)
		got, x := FromInt(api.Single, api.NearEven, k)
		kept, accuracy := new(big.Float).SetInt64(k).Float32()
		if got != math.Float32bits(float32(k)) || got != math.Float32bits(kept) || x != (api.Exc{Inexact: accuracy != big.Exact}) {
			t.Fatalf("P8.1: FromInt of %d is %#x, %+v, the machine's is %#x", k, got, x, math.Float32bits(float32(k)))
		}
	}
}

// P8.1: ToInt's rows that are written out, in NearEven, ToZero, Up, Down, NearAway.
func TestToIntRows(t *testing.T) {
	for _, r := range []struct {
		w    layout
		a    uint32
		want [5]int32
		x    api.Exc
	}{
		{single, 0x40200000, [5]int32{2, 2, 3, 2, 3}, inexact},      // 2.5
		{single, 0xc0200000, [5]int32{-2, -2, -2, -3, -3}, inexact}, // -2.5
		{single, 0x401fffff, [5]int32{2, 2, 3, 2, 2}, inexact},
		{single, 0x40200001, [5]int32{3, 2, 3, 2, 3}, inexact},
		{single, 0x40600000, [5]int32{4, 3, 4, 3, 4}, inexact}, // 3.5
		{single, 0x3f000000, [5]int32{0, 0, 1, 0, 1}, inexact}, // 0.5
		{single, 0xbf000000, [5]int32{0, 0, 0, -1, -1}, inexact},
		{single, 0x3effffff, [5]int32{0, 0, 1, 0, 0}, inexact},
		{single, 0x3f000001, [5]int32{1, 0, 1, 0, 1}, inexact},
		{single, 0x3e800000, [5]int32{0, 0, 1, 0, 0}, inexact},    // 0.25
		{single, 0xbf400000, [5]int32{-1, 0, 0, -1, -1}, inexact}, // -0.75
		{single, 0x3f7fffff, [5]int32{1, 0, 1, 0, 1}, inexact},
		{single, 0x00000001, [5]int32{0, 0, 1, 0, 0}, inexact},
		{single, 0x807fffff, [5]int32{0, 0, 0, -1, 0}, inexact},
		{single, 0x4affffff, [5]int32{8388608, 8388607, 8388608, 8388607, 8388608}, inexact}, // 8388607.5
		{single, 0x4b000001, [5]int32{8388609, 8388609, 8388609, 8388609, 8388609}, none},
		{half, 0x7bff, [5]int32{65504, 65504, 65504, 65504, 65504}, none},
		{half, 0xfbff, [5]int32{-65504, -65504, -65504, -65504, -65504}, none},
		{half, 0x63ff, [5]int32{1024, 1023, 1024, 1023, 1024}, inexact}, // 1023.5
		{half, 0x4100, [5]int32{2, 2, 3, 2, 3}, inexact},
		{half, 0x0001, [5]int32{0, 0, 1, 0, 0}, inexact},
		{brain, 0xc020, [5]int32{-2, -2, -2, -3, -3}, inexact},
		{brain, 0x42ff, [5]int32{128, 127, 128, 127, 128}, inexact}, // 127.5
		{brain, 0x4300, [5]int32{128, 128, 128, 128, 128}, none},
	} {
		for mode, want := range r.want {
			r.w.holdToInt(t, "P8.1", mode, r.a, integer{want, r.x})
		}
	}
}

// P8.1: the greatest and the least that 32 signed bits have, and what lies beyond them.
func TestToIntAtTheLimits(t *testing.T) {
	lost := integer{math.MinInt32, invalid}
	for _, r := range []struct {
		w    layout
		a    uint32
		want integer
	}{
		{single, 0x4effffff, integer{2147483520, none}},
		{single, 0x4f000000, lost}, // one above 2147483647
		{single, 0x4f000001, lost},
		{single, 0xceffffff, integer{-2147483520, none}},
		{single, 0xcf000000, integer{math.MinInt32, none}},
		{single, 0xcf000001, lost},
		{single, 0x4f7fffff, lost},
		{single, 0x4f800000, lost}, // 2 to 32: its lower 32 bits are all 0
		{single, 0xcf800000, lost},
		{single, 0x4f800001, lost},
		{single, 0x5e800000, lost}, // 2 to 62, and on to 66
		{single, 0x5f000000, lost},
		{single, 0x5f800000, lost},
		{single, 0x60000000, lost},
		{single, 0x60800000, lost},
		{single, 0xdf000000, lost},
		{single, 0xdf800000, lost},
		{single, 0x5f7fffff, lost},
		{single, 0x6a800001, lost}, // all of its bits are above the 64th, or just beside it
		{single, 0x6b800001, lost},
		{single, 0x7f7fffff, lost},
		{single, 0xff7fffff, lost},
		{brain, 0x4eff, integer{2139095040, none}},
		{brain, 0x4f00, lost},
		{brain, 0xcf00, integer{math.MinInt32, none}},
		{brain, 0xcf01, lost},
		{brain, 0x7f7f, lost},
		{brain, 0xff7f, lost},
	} {
		for _, mode := range modes() {
			r.w.holdToInt(t, "P8.1", mode, r.a, r.want)
		}
	}
}

// P8.1: of infinities and NaNs of all kinds there is the least one, Invalid alone.
func TestToIntOfWhatIsNoNumber(t *testing.T) {
	for _, w := range layouts() {
		quiets, signals := w.nans()
		for _, a := range append(append(quiets, signals...), w.inf, w.sign|w.inf) {
			for _, mode := range modes() {
				w.holdToInt(t, "P8.1", mode, a, integer{math.MinInt32, invalid})
			}
		}
	}
}
