package act

import (
	"testing"

	"anneal/api"
	"anneal/conv"
)

// P15.2: numbers that are written out, in each two formats: d's times the slope at z's,
// whatever format z has; noughts keep the product's sign.
func TestBackRows(t *testing.T) {
	type shape struct{ rows, cols int }
	for _, v := range layouts() {
		for _, w := range layouts() {
			one, two, sign := w.lead<<w.frac, (w.lead+1)<<w.frac, uint32(1)<<(w.bits-1)
			high, low := v.lead<<v.frac, v.lead<<v.frac|1<<(v.bits-1)
			halved := one - 1<<w.frac
			for _, s := range []shape{{1, 6}, {6, 1}, {2, 3}, {3, 2}} {
				z, d := of(s.rows, s.cols, v.f, high, low, 0, high, low, 1<<(v.bits-1)), of(s.rows, s.cols, w.f, one, one, two, sign|two, sign|two, sign|one)
				what := "P15.2: Back of " + v.name + " and " + w.name
				got, e := Back(api.Linear, z, d)
				holdTensor(t, what+", Linear", got, e, d, api.OK)
				got, e = Back(api.Relu, z, d)
				holdTensor(t, what+", Relu", got, e, of(s.rows, s.cols, w.f, one, 0, 0, sign|two, sign, sign), api.OK)
				got, e = Back(api.Tanh, of(s.rows, s.cols, v.f, 0, 0, 0, 0, 0, 0), d)
				holdTensor(t, what+", Tanh", got, e, d, api.OK)
				got, e = Back(api.Gelu, of(s.rows, s.cols, v.f, 0, 0, 0, 0, 0, 0), d)
				holdTensor(t, what+", Gelu", got, e, of(s.rows, s.cols, w.f, halved, halved, one, sign|one, sign|one, sign|halved), api.OK)
			}
		}
	}
}

// P15.2: numbers of which Back would tell something else, were it reckoned in one of the other ways that are named.
func TestBackJustSo(t *testing.T) {
	for _, x := range []struct {
		v, w       layout
		kind       int
		z, d, want uint32
	}{
		// the product rounded once, to d's format
		{half, half, api.Gelu, 0xbd59, 0xc2fc, 0x3720}, {half, brain, api.Gelu, 0xbacd, 0xc049, 0x3df6}, {brain, half, api.Gelu, 0xbf7d, 0xc569, 0x36ee}, {brain, half, api.Tanh, 0x3e32, 0x3e22, 0x3df4},
		{single, half, api.Gelu, 0x40382fb9, 0xc2f4, 0xc310}, {single, half, api.Tanh, 0xbdac24cc, 0xbc07, 0xbc00}, {single, half, api.Tanh, 0x3df2aba5, 0xc932, 0xc920}, {single, brain, api.Tanh, 0x3ed64ddb, 0xbf36, 0xbf1a},
		// the slope narrowed to z's format
		{half, half, api.Tanh, 0xb96f, 0xbc83, 0xb9df}, {half, brain, api.Gelu, 0xc067, 0x404b, 0xbe52}, {half, single, api.Tanh, 0xbf4c, 0x3f5e56a2, 0x3dafeec8},
		{brain, half, api.Gelu, 0x3df3, 0x3c9c, 0x397a}, {brain, brain, api.Tanh, 0x3da2, 0xbfeb, 0xbfea}, {brain, single, api.Gelu, 0xbf98, 0x408bbfbe, 0xbf0207c2},
		// the slope narrowed to d's format
		{half, half, api.Gelu, 0x37cf, 0x3343, 0x323f}, {half, brain, api.Gelu, 0xb6fa, 0xc01b, 0xbed7}, {brain, half, api.Tanh, 0xc050, 0xae42, 0x90cd},
		{brain, brain, api.Gelu, 0xc085, 0xbff1, 0x39a2}, {single, half, api.Tanh, 0xbd935795, 0xc309, 0xc300}, {single, brain, api.Gelu, 0xbe1d15de, 0x4001, 0x3f43},
		// z in d's format
		{half, brain, api.Tanh, 0xc53c, 0xbe3a, 0xb7ad}, {single, half, api.Tanh, 0x409fe736, 0x4647, 0x14b3}, {single, brain, api.Gelu, 0xbeaa3d5d, 0x3e46, 0x3d41},
		// d in z's format
		{half, single, api.Gelu, 0x2f6d, 0xc11c297e, 0xc0b8f231}, {brain, half, api.Gelu, 0x40e9, 0x2d1c, 0x2d1c}, {brain, single, api.Tanh, 0x3ee8, 0xc0c30be7, 0xc09fe7ac},
		// the product narrowed to z's format on its way
		{half, brain, api.Tanh, 0x46c7, 0x3e37, 0x357c}, {half, single, api.Gelu, 0x3dea, 0x3ee2ff11, 0x3f000ef9}, {brain, half, api.Gelu, 0xbef1, 0xb1ba, 0xa6ea}, {brain, single, api.Tanh, 0xc05f, 0x3ee2f371, 0x3ada3c0d},
		// the slope at z's value
		{half, half, api.Tanh, 0x46b8, 0xc6f4, 0x82a9}, {brain, brain, api.Tanh, 0x3f13, 0xbfea, 0xbfab}, {single, single, api.Gelu, 0x3e35f954, 0x41375ffb, 0x40ead4a6},
		// z's value in the place of its slope
		{half, half, api.Gelu, 0x3747, 0x36c8, 0x35b0}, {brain, brain, api.Tanh, 0xbddf, 0x4008, 0x4006}, {single, single, api.Tanh, 0x3e33a19c, 0x3dd6c5f2, 0x3dd04c1f},
		// d less t's square times it
		{half, single, api.Tanh, 0xbd26, 0x3ebd3c9d, 0x3dc73b7b}, {brain, half, api.Tanh, 0xc08a, 0x3d16, 0x137b}, {single, brain, api.Tanh, 0x40a8131a, 0xbfac, 0xb91b}, {single, single, api.Tanh, 0xc0023c2c, 0xbdf880b5, 0xbc034c65},
	} {
		got, e := Back(x.kind, of(1, 1, x.v.f, x.z), of(1, 1, x.w.f, x.d))
		holdTensor(t, "P15.2: Back of "+kinds()[x.kind]+", "+x.v.name+" and "+x.w.name, got, e, of(1, 1, x.w.f, x.want), api.OK)
	}
}

// P15.2: edges of each two formats, each with each: an infinity times a slope of nought is the plain NaN.
func TestBackOfEdges(t *testing.T) {
	for _, v := range layouts() {
		for _, w := range layouts() {
			zs, ds := v.edges(), w.edges()
			z, d := of(len(zs), len(ds), v.f), of(len(zs), len(ds), w.f)
			for _, a := range zs {
				for _, b := range ds {
					z.V, d.V = append(z.V, a), append(d.V, b)
				}
			}
			for kind, name := range kinds() {
				got, e := Back(kind, z, d)
				holdTensor(t, "P15.2: Back of edges, "+name+", "+v.name+" and "+w.name, got, e, backwards(kind, z, d), api.OK)
			}
		}
	}
}

// P15.2: edges that are written out.
func TestBackEdgesWrittenOut(t *testing.T) {
	for _, x := range []struct {
		v, w       layout
		kind       int
		z, d, want uint32
	}{
		{half, half, api.Relu, 0x0000, 0x7c00, 0x7e00}, {half, half, api.Relu, 0xfc00, 0xfc00, 0x7e00}, {half, half, api.Relu, 0x0001, 0x7c00, 0x7c00}, {half, half, api.Relu, 0x7c00, 0xfc00, 0xfc00},
		{half, half, api.Relu, 0x7e00, 0x3c00, 0x0000}, {half, half, api.Relu, 0xfc01, 0xbc00, 0x8000}, {half, half, api.Relu, 0x7c01, 0x7c00, 0x7e00}, {half, half, api.Relu, 0x3c00, 0x7c01, 0x7e00}, {half, half, api.Relu, 0x8000, 0xfe01, 0x7e00},
		{half, half, api.Linear, 0x7c01, 0x3c01, 0x3c01}, {half, half, api.Linear, 0x0000, 0xfc01, 0x7e00}, {half, half, api.Linear, 0xfc00, 0x8001, 0x8001}, {half, half, api.Linear, 0x8000, 0xfbff, 0xfbff},
		{half, half, api.Tanh, 0x7c00, 0x7c00, 0x7e00}, {half, half, api.Tanh, 0xfc00, 0xfbff, 0x8000}, {half, half, api.Tanh, 0x7c01, 0x0000, 0x7e00}, {half, half, api.Tanh, 0x0001, 0xfbff, 0xfbff},
		{half, half, api.Gelu, 0x0000, 0x0001, 0x0000}, {half, half, api.Gelu, 0x8000, 0x8001, 0x8000}, {half, half, api.Gelu, 0x0000, 0x0003, 0x0002}, {half, half, api.Gelu, 0x4000, 0x7bff, 0x7c00}, {half, half, api.Gelu, 0xfc00, 0x0000, 0x7e00},
		{single, brain, api.Gelu, 0x5f7fffff, 0x3f80, 0x3f80}, {single, brain, api.Gelu, 0x5f800000, 0x3f80, 0x7fc0}, {brain, half, api.Gelu, 0xff7f, 0x3c00, 0x7e00},
		{single, brain, api.Linear, 0xff923456, 0xff81, 0x7fc0}, {single, single, api.Linear, 0x00000000, 0x7f800001, nan}, {single, single, api.Linear, 0x7f800001, 0x80000001, 0x80000001},
		{brain, single, api.Relu, 0x0001, 0x7f7fffff, 0x7f7fffff}, {brain, single, api.Relu, 0x8001, 0xff7fffff, minus}, {brain, single, api.Gelu, 0x4000, 0x7f7fffff, inf}, {brain, single, api.Gelu, 0xc000, 0x7f7fffff, 0xfdb054ca},
	} {
		got, e := Back(x.kind, of(1, 1, x.v.f, x.z), of(1, 1, x.w.f, x.d))
		holdTensor(t, "P15.2: Back of "+kinds()[x.kind]+", "+x.v.name+" and "+x.w.name, got, e, of(1, 1, x.w.f, x.want), api.OK)
	}
}

// P15.2: tensors without a pattern, of all shapes, in each two formats.
func TestBackOfMany(t *testing.T) {
	for i, s := range []struct{ rows, cols int }{{1, 1}, {1, 9}, {9, 1}, {2, 3}, {3, 2}, {17, 5}, {1, 4096}, {4096, 1}} {
		for _, v := range layouts() {
			for _, w := range layouts() {
				seed := uint64(i + 1)
				for _, z := range []api.Tensor{v.near(s.rows, s.cols, seed), v.mixed(s.rows, s.cols, seed+100)} {
					for _, d := range []api.Tensor{w.near(s.rows, s.cols, seed+200), w.mixed(s.rows, s.cols, seed+300)} {
						for kind, name := range kinds() {
							got, e := Back(kind, z, d)
							holdTensor(t, "P15.2: Back of "+name+", "+v.name+" and "+w.name, got, e, backwards(kind, z, d), api.OK)
						}
					}
				}
			}
		}
	}
}

// P15.2: tensors without a pattern are as they were reckoned elsewhere, by another program in another language.
func TestBackSameEverywhere(t *testing.T) {
	for _, x := range []struct {
		v, w layout
		want [4]uint64
	}{
		{half, half, [4]uint64{0x2f08b24f71afee5, 0xe4adb442c8525b65, 0xf3eb16d2e3688196, 0x2bb905809c0718db}},
		{half, brain, [4]uint64{0x1c92d1bbe99a9c39, 0xc85297916f5b35bd, 0x667aa5838e1adec, 0x14d94cbe53736180}},
		{half, single, [4]uint64{0xd01d292b7b9ae161, 0x261b38977e6b1679, 0xec8ff1959dfd617f, 0x6a5e7e049e95bca2}},
		{brain, half, [4]uint64{0x2f08b24f71afee5, 0x65ccd114cd505908, 0x91b7d3bee568ae7a, 0x39025e6103155b20}},
		{brain, brain, [4]uint64{0x1c92d1bbe99a9c39, 0x2755d396972814c2, 0xfc8cef9369491ced, 0xbd84dd9e06393f16}},
		{brain, single, [4]uint64{0xd01d292b7b9ae161, 0x846ce5c0a5b12904, 0xe8935953c9e80ebc, 0x38685cb6de8b85e4}},
		{single, half, [4]uint64{0x2f08b24f71afee5, 0x60b13db1b5e2af99, 0xeb1698cbbe12c31e, 0x630bb1723f29fcad}},
		{single, brain, [4]uint64{0x1c92d1bbe99a9c39, 0x897cda40017d99b6, 0xdbd0807bdb9be3c0, 0xa824b0028ba94e0b}},
		{single, single, [4]uint64{0xd01d292b7b9ae161, 0xb6b7e321d9584a97, 0xe399c0b1e8947680, 0xf0ffb56ff2002504}},
	} {
		for kind, name := range kinds() {
			var told [][]uint32
			for _, z := range []api.Tensor{x.v.near(40, 30, 61), x.v.mixed(40, 30, 64)} {
				for _, d := range []api.Tensor{x.w.near(40, 30, 62), x.w.mixed(40, 30, 63)} {
					got, _ := Back(kind, z, d)
					told = append(told, got.V)
				}
			}
			if digest(told...) != x.want[kind] {
				t.Errorf("P15.2: Back of %s, %s and %s makes %#x, not %#x", name, x.v.name, x.w.name, digest(told...), x.want[kind])
			}
		}
	}
}

// P15.2: of a d of ones that are Singles there are the slopes, each at its place.
func TestBackOfOnesIsTheSlopes(t *testing.T) {
	for _, v := range layouts() {
		for _, z := range []api.Tensor{v.near(30, 20, 71), v.mixed(20, 30, 72)} {
			for kind, name := range kinds() {
				want := of(z.Rows, z.Cols, api.Single)
				for _, x := range z.V {
					want.V = append(want.V, Slope(kind, conv.Widen(v.f, x)))
				}
				got, e := Back(kind, z, of(z.Rows, z.Cols, api.Single, single.ones(len(z.V))...))
				holdTensor(t, "P15.2: Back of ones, "+name+", "+v.name, got, e, want, api.OK)
			}
		}
	}
}
