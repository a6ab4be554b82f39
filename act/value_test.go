package act

import (
	"testing"

	"anneal/api"
	"anneal/funcs"
)

// P15.1: numbers of which each activation's value and slope are written out, as they
// were reckoned elsewhere, by another program in another language: ordinary ones,
// noughts, subnormal ones, those beside Tanh's limit, the greatest ones, infinities.
func TestRows(t *testing.T) {
	for _, x := range []struct {
		x            uint32
		value, slope [4]uint32 // of Linear, Relu, Tanh, Gelu
	}{
		{0x00000000, [4]uint32{0x00000000, 0x00000000, 0x00000000, 0x00000000}, [4]uint32{0x3f800000, 0x00000000, 0x3f800000, 0x3f000000}},
		{0x80000000, [4]uint32{0x80000000, 0x00000000, 0x80000000, 0x80000000}, [4]uint32{0x3f800000, 0x00000000, 0x3f800000, 0x3f000000}},
		{0x00000001, [4]uint32{0x00000001, 0x00000001, 0x00000000, 0x00000000}, [4]uint32{0x3f800000, 0x3f800000, 0x3f800000, 0x3f000000}},
		{0x80000001, [4]uint32{0x80000001, 0x00000000, 0x80000000, 0x80000000}, [4]uint32{0x3f800000, 0x00000000, 0x3f800000, 0x3f000000}},
		{0x00000002, [4]uint32{0x00000002, 0x00000002, 0x00000000, 0x00000001}, [4]uint32{0x3f800000, 0x3f800000, 0x3f800000, 0x3f000000}},
		{0x80000002, [4]uint32{0x80000002, 0x00000000, 0x80000000, 0x80000001}, [4]uint32{0x3f800000, 0x00000000, 0x3f800000, 0x3f000000}},
		{0x007fffff, [4]uint32{0x007fffff, 0x007fffff, 0x00000000, 0x00400000}, [4]uint32{0x3f800000, 0x3f800000, 0x3f800000, 0x3f000000}},
		{0x807fffff, [4]uint32{0x807fffff, 0x00000000, 0x80000000, 0x80400000}, [4]uint32{0x3f800000, 0x00000000, 0x3f800000, 0x3f000000}},
		{0x00800000, [4]uint32{0x00800000, 0x00800000, 0x00000000, 0x00400000}, [4]uint32{0x3f800000, 0x3f800000, 0x3f800000, 0x3f000000}},
		{0x80800000, [4]uint32{0x80800000, 0x00000000, 0x80000000, 0x80400000}, [4]uint32{0x3f800000, 0x00000000, 0x3f800000, 0x3f000000}},
		{0x33000000, [4]uint32{0x33000000, 0x33000000, 0x00000000, 0x32800000}, [4]uint32{0x3f800000, 0x3f800000, 0x3f800000, 0x3f000000}},
		{0xb3000000, [4]uint32{0xb3000000, 0x00000000, 0x80000000, 0xb2800000}, [4]uint32{0x3f800000, 0x00000000, 0x3f800000, 0x3f000000}},
		{0x3dcccccd, [4]uint32{0x3dcccccd, 0x3dcccccd, 0x3dcc1eb8, 0x3d5d1d03}, [4]uint32{0x3f800000, 0x3f800000, 0x3f7d74fc, 0x3f145b8a}},
		{0xbdcccccd, [4]uint32{0xbdcccccd, 0x00000000, 0xbdcc1eb8, 0xbd3c7c96}, [4]uint32{0x3f800000, 0x00000000, 0x3f7d74fc, 0x3ed748ec}},
		{0x3e800000, [4]uint32{0x3e800000, 0x3e800000, 0x3e7acbf4, 0x3e19447e}, [4]uint32{0x3f800000, 0x3f800000, 0x3f70a4d0, 0x3f3202b9}},
		{0xbe800000, [4]uint32{0xbe800000, 0x00000000, 0xbe7acbf4, 0xbdcd7703}, [4]uint32{0x3f800000, 0x00000000, 0x3f70a4d0, 0x3e9bfa8d}},
		{0x3f000000, [4]uint32{0x3f000000, 0x3f000000, 0x3eec9a9e, 0x3eb1016e}, [4]uint32{0x3f800000, 0x3f800000, 0x3f4954a4, 0x3f5e0bf5}},
		{0xbf000000, [4]uint32{0xbf000000, 0x00000000, 0xbeec9a9e, 0xbe1dfd25}, [4]uint32{0x3f800000, 0x00000000, 0x3f4954a4, 0x3e07d02f}},
		{0x3f800000, [4]uint32{0x3f800000, 0x3f800000, 0x3f42f7d6, 0x3f57585c}, [4]uint32{0x3f800000, 0x3f800000, 0x3ed706e0, 0x3f8a9e91}},
		{0xbf800000, [4]uint32{0xbf800000, 0x00000000, 0xbf42f7d6, 0xbe229e90}, [4]uint32{0x3f800000, 0x00000000, 0x3ed706e0, 0xbda9e914}},
		{0x3fc00000, [4]uint32{0x3fc00000, 0x3fc00000, 0x3f67b7cc, 0x3fb32529}, [4]uint32{0x3f800000, 0x3f800000, 0x3e390b28, 0x3f9058d4}},
		{0xbfc00000, [4]uint32{0xbfc00000, 0x00000000, 0xbf67b7cc, 0xbdcdad6c}, [4]uint32{0x3f800000, 0x00000000, 0x3e390b28, 0xbe02c69f}},
		{0x40000000, [4]uint32{0x40000000, 0x40000000, 0x3f76ca83, 0x3ffa3042}, [4]uint32{0x3f800000, 0x3f800000, 0x3d90b160, 0x3f8b054d}},
		{0xc0000000, [4]uint32{0xc0000000, 0x00000000, 0xbf76ca83, 0xbd39f7c0}, [4]uint32{0x3f800000, 0x00000000, 0x3d90b160, 0xbdb054cb}},
		{0x40400000, [4]uint32{0x40400000, 0x40400000, 0x3f7ebbe9, 0x403fc468}, [4]uint32{0x3f800000, 0x3f800000, 0x3c21a500, 0x3f817b98}},
		{0xc0400000, [4]uint32{0xc0400000, 0x00000000, 0xbf7ebbe9, 0xbb6e6200}, [4]uint32{0x3f800000, 0x00000000, 0x3c21a500, 0xbc3dcbd6}},
		{0x40a00000, [4]uint32{0x40a00000, 0x40a00000, 0x3f7ffa0d, 0x409fffff}, [4]uint32{0x3f800000, 0x3f800000, 0x393e6000, 0x3f800011}},
		{0xc0a00000, [4]uint32{0xc0a00000, 0x00000000, 0xbf7ffa0d, 0xb4a00000}, [4]uint32{0x3f800000, 0x00000000, 0x393e6000, 0xb606f297}},
		{0x41102cb4, [4]uint32{0x41102cb4, 0x41102cb4, 0x3f800000, 0x41102cb4}, [4]uint32{0x3f800000, 0x3f800000, 0x00000000, 0x3f800000}},
		{0xc1102cb4, [4]uint32{0xc1102cb4, 0x00000000, 0xbf800000, 0x80000000}, [4]uint32{0x3f800000, 0x00000000, 0x00000000, 0x00000000}},
		{0x41200000, [4]uint32{0x41200000, 0x41200000, 0x3f800000, 0x41200000}, [4]uint32{0x3f800000, 0x3f800000, 0x00000000, 0x3f800000}},
		{0xc1200000, [4]uint32{0xc1200000, 0x00000000, 0xbf800000, 0x80000000}, [4]uint32{0x3f800000, 0x00000000, 0x00000000, 0x00000000}},
		{0x5f7fffff, [4]uint32{0x5f7fffff, 0x5f7fffff, 0x3f800000, 0x5f7fffff}, [4]uint32{0x3f800000, 0x3f800000, 0x00000000, 0x3f800000}},
		{0xdf7fffff, [4]uint32{0xdf7fffff, 0x00000000, 0xbf800000, 0x80000000}, [4]uint32{0x3f800000, 0x00000000, 0x00000000, 0x00000000}},
		{0x5f800000, [4]uint32{0x5f800000, 0x5f800000, 0x3f800000, 0x5f800000}, [4]uint32{0x3f800000, 0x3f800000, 0x00000000, 0x7fc00000}},
		{0xdf800000, [4]uint32{0xdf800000, 0x00000000, 0xbf800000, 0x80000000}, [4]uint32{0x3f800000, 0x00000000, 0x00000000, 0x7fc00000}},
		{0x7f7fffff, [4]uint32{0x7f7fffff, 0x7f7fffff, 0x3f800000, 0x7f7fffff}, [4]uint32{0x3f800000, 0x3f800000, 0x00000000, 0x7fc00000}},
		{0xff7fffff, [4]uint32{0xff7fffff, 0x00000000, 0xbf800000, 0x80000000}, [4]uint32{0x3f800000, 0x00000000, 0x00000000, 0x7fc00000}},
		{0x7f800000, [4]uint32{0x7f800000, 0x7f800000, 0x3f800000, 0x7f800000}, [4]uint32{0x3f800000, 0x3f800000, 0x00000000, 0x7fc00000}},
		{0xff800000, [4]uint32{0xff800000, 0x00000000, 0xbf800000, 0x7fc00000}, [4]uint32{0x3f800000, 0x00000000, 0x00000000, 0x7fc00000}},
	} {
		for kind, name := range kinds() {
			if got := Value(kind, x.x); got != x.value[kind] {
				t.Errorf("P15.1: Value of %s, %#08x is %#08x, not %#08x", name, x.x, got, x.value[kind])
			}
			if got := Slope(kind, x.x); got != x.slope[kind] {
				t.Errorf("P15.1: Slope of %s, %#08x is %#08x, not %#08x", name, x.x, got, x.slope[kind])
			}
		}
	}
}

// P15.1: of a NaN of either kind and sign Linear tells it as it is, and 1; Relu the
// plain one, and Zero; Tanh and Gelu the plain one.
func TestNans(t *testing.T) {
	const one = 0x3f800000
	for _, frac := range []uint32{1, 2, 1 << 13, 1<<22 - 1, 1 << 22, 1<<22 | 1, 1<<22 | 1<<13, 1<<23 - 1} {
		for _, x := range []uint32{inf | frac, minus | inf | frac} {
			for kind, want := range [][2]uint32{{x, one}, {nan, 0}, {nan, nan}, {nan, nan}} {
				if v, s := Value(kind, x), Slope(kind, x); v != want[0] || s != want[1] {
					t.Errorf("P15.1: of %s, %#08x there are %#08x, %#08x, not %#08x", kinds()[kind], x, v, s, want)
				}
			}
		}
	}
}

// P15.1: the example of the chapter.
func TestExample(t *testing.T) {
	if got := Value(api.Relu, 0xbf800000); got != 0 {
		t.Errorf("P15.1: Value of Relu, -1 is %#08x, not 0", got)
	}
}

// P15.1: numbers of all sizes, by the machine and by funcs.
func TestAsTheMachines(t *testing.T) {
	for _, x := range numbers() {
		for kind, name := range kinds() {
			if got, want := Value(kind, x), valued(kind, x); got != want {
				t.Fatalf("P15.1: Value of %s, %#08x is %#08x, not %#08x", name, x, got, want)
			}
			if got, want := Slope(kind, x), sloped(kind, x); got != want {
				t.Fatalf("P15.1: Slope of %s, %#08x is %#08x, not %#08x", name, x, got, want)
			}
		}
	}
}

// P15.1: Relu turns at nought and nowhere else: what is above it by the least number is, what is below isn't.
func TestReluTurnsAtNought(t *testing.T) {
	for x := uint32(1); x <= inf; x += 0xfff1 {
		if v, s := Value(api.Relu, x), Slope(api.Relu, x); v != x || s != 0x3f800000 {
			t.Fatalf("P15.1: of Relu, %#08x there are %#08x, %#08x", x, v, s)
		}
		if v, s := Value(api.Relu, minus|x), Slope(api.Relu, minus|x); v != 0 || s != 0 {
			t.Fatalf("P15.1: of Relu, %#08x there are %#08x, %#08x", minus|x, v, s)
		}
	}
}

// P15.1: Tanh and Gelu are those of funcs, of which Value and Slope tell each bit.
func TestFuncs(t *testing.T) {
	for x := uint64(0); x < 1<<32; x += 49999 {
		v := uint32(x)
		if Value(api.Tanh, v) != funcs.Tanh(v) || Value(api.Gelu, v) != funcs.Gelu(v) || Slope(api.Gelu, v) != funcs.Slope(v) {
			t.Fatalf("P15.1: of %#08x there are %#08x, %#08x, %#08x", v, Value(api.Tanh, v), Value(api.Gelu, v), Slope(api.Gelu, v))
		}
	}
}

// P15.1: of an activation that is none there is the plain NaN, whatever x is.
func TestNoKind(t *testing.T) {
	for _, kind := range noKinds() {
		for _, x := range single.edges() {
			if v, s := Value(kind, x), Slope(kind, x); v != nan || s != nan {
				t.Errorf("P15.1: of activation %d, %#08x there are %#08x, %#08x", kind, x, v, s)
			}
		}
	}
}

// P15.1: numbers of which Tanh's slope would be something else, were it reckoned in one of the other ways that are named.
func TestTanhSlopeJustSo(t *testing.T) {
	for _, x := range []struct{ x, want uint32 }{
		// one fma of t, t and 1
		{0x4024be40, 0x3cbc2e20}, {0x3f767727, 0x3ee37166}, {0x40079d3b, 0x3d65daf0}, {0x3fbc0d9d, 0x3e43a1d8},
		// 1 less t, times 1 and t
		{0xbe3c8776, 0x3f7783cc}, {0x3ee498c1, 0x3f530e76}, {0x404ef413, 0x3bcafa80}, {0x3f288f56, 0x3f2aacc6},
		// 1 less t, and t times that
		{0x4079dda6, 0x3ad4de00}, {0x3ffc5414, 0x3d98e950}, {0xc0579d87, 0x3b9af500}, {0x404c35ba, 0x3bdd1600},
		// 4 times Exp by the square of it and 1
		{0x40489d99, 0x3bf74500}, {0xc03db415, 0x3c2d9bc0}, {0x4030e3ec, 0x3c813640}, {0x4041e9c3, 0x3c184f00},
		// 1 by the square of what Exp makes on both sides
		{0xc019cd1c, 0x3d03d380}, {0xbf5fb817, 0x3f015b1c}, {0xbf26d928, 0x3f2bfe13}, {0x3e78e63c, 0x3f71739f},
	} {
		if got := Slope(api.Tanh, x.x); got != x.want {
			t.Errorf("P15.1: Slope of Tanh, %#08x is %#08x, not %#08x", x.x, got, x.want)
		}
		if got := Slope(api.Tanh, x.x^minus); got != x.want {
			t.Errorf("P15.1: Slope of Tanh, %#08x is %#08x, not %#08x", x.x^minus, got, x.want)
		}
	}
}

// P15.1: over all numbers there are, values and slopes are as they were reckoned
// elsewhere, by another program in another language.
func TestSameEverywhere(t *testing.T) {
	const stride = 99991
	for kind, want := range [][2]uint64{
		{0xf00d3bf6f9da35e8, 0xa8a21b0aede8c28d},
		{0x40a5b52468f2db3d, 0xc67d9e9c60e8c28d},
		{0x824d8ee18270218d, 0x1bf7afa1fce5caf5},
		{0xe8292aa4204ddd65, 0x98ce9e8c8e596f52},
	} {
		var values, slopes []uint32
		for x := uint64(0); x < 1<<32; x += stride {
			values, slopes = append(values, Value(kind, uint32(x))), append(slopes, Slope(kind, uint32(x)))
		}
		if got := [2]uint64{digest(values), digest(slopes)}; got != want {
			t.Errorf("P15.1: of %s there are %#x together, not %#x", kinds()[kind], got, want)
		}
	}
}
