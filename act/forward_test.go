package act

import (
	"testing"

	"anneal/api"
)

// formatRow is numbers of a format, and what each activation makes of them.
type formatRow struct {
	w    layout
	l    []uint32
	want [4][]uint32 // of Linear, Relu, Tanh, Gelu
}

// P15.2: numbers of each format that are written out: noughts, subnormal numbers,
// ordinary ones, the greatest ones, infinities, NaNs of either kind and sign; as a row,
// as a column, as some of each.
func TestForwardRows(t *testing.T) {
	for _, x := range []formatRow{
		{half, []uint32{0, 0x8000, 1, 0x8001, 0x03ff, 0x83ff, 0x0400, 0x3800, 0xb800, 0x3c00, 0xbc00, 0x4000, 0xc000, 0x4248, 0x4880, 0xc880, 0x7bff, 0xfbff, 0x7c00, 0xfc00, 0x7e00, 0xfe00, 0x7c01, 0xfdff}, [4][]uint32{
			{0, 0x8000, 1, 0x8001, 0x03ff, 0x83ff, 0x0400, 0x3800, 0xb800, 0x3c00, 0xbc00, 0x4000, 0xc000, 0x4248, 0x4880, 0xc880, 0x7bff, 0xfbff, 0x7c00, 0xfc00, 0x7e00, 0x7e00, 0x7e00, 0x7e00},
			{0, 0, 1, 0, 0x03ff, 0, 0x0400, 0x3800, 0, 0x3c00, 0, 0x4000, 0, 0x4248, 0x4880, 0, 0x7bff, 0, 0x7c00, 0, 0x7e00, 0x7e00, 0x7e00, 0x7e00},
			{0, 0x8000, 0, 0x8000, 0x0400, 0x8400, 0x0400, 0x3765, 0xb765, 0x3a18, 0xba18, 0x3bb6, 0xbbb6, 0x3bf8, 0x3c00, 0xbc00, 0x3c00, 0xbc00, 0x3c00, 0xbc00, 0x7e00, 0x7e00, 0x7e00, 0x7e00},
			{0, 0x8000, 0, 0x8000, 0x0200, 0x81ff, 0x0200, 0x3588, 0xb0f0, 0x3abb, 0xb115, 0x3fd2, 0xa9d0, 0x4247, 0x4880, 0x8000, 0x7bff, 0x8000, 0x7c00, 0x7e00, 0x7e00, 0x7e00, 0x7e00, 0x7e00}}},
		{brain, []uint32{0, 0x8000, 1, 0x8001, 0x007f, 0x807f, 0x0080, 0x3f00, 0xbf00, 0x3f80, 0xbf80, 0x4000, 0xc000, 0x4049, 0x4110, 0xc110, 0x7f7f, 0xff7f, 0x7f80, 0xff80, 0x7fc0, 0xffc0, 0x7f81, 0xffbf}, [4][]uint32{
			{0, 0x8000, 1, 0x8001, 0x007f, 0x807f, 0x0080, 0x3f00, 0xbf00, 0x3f80, 0xbf80, 0x4000, 0xc000, 0x4049, 0x4110, 0xc110, 0x7f7f, 0xff7f, 0x7f80, 0xff80, 0x7fc0, 0x7fc0, 0x7fc0, 0x7fc0},
			{0, 0, 1, 0, 0x007f, 0, 0x0080, 0x3f00, 0, 0x3f80, 0, 0x4000, 0, 0x4049, 0x4110, 0, 0x7f7f, 0, 0x7f80, 0, 0x7fc0, 0x7fc0, 0x7fc0, 0x7fc0},
			{0, 0x8000, 0, 0x8000, 0, 0x8000, 0, 0x3eed, 0xbeed, 0x3f43, 0xbf43, 0x3f77, 0xbf77, 0x3f7f, 0x3f80, 0xbf80, 0x3f80, 0xbf80, 0x3f80, 0xbf80, 0x7fc0, 0x7fc0, 0x7fc0, 0x7fc0},
			{0, 0x8000, 0, 0x8000, 0x0040, 0x8040, 0x0040, 0x3eb1, 0xbe1e, 0x3f57, 0xbe23, 0x3ffa, 0xbd3a, 0x4049, 0x4110, 0x8000, 0x7f7f, 0x8000, 0x7f80, 0x7fc0, 0x7fc0, 0x7fc0, 0x7fc0, 0x7fc0}}},
		{single, []uint32{0, minus, 1, 0x80000001, 0x007fffff, 0x807fffff, 0x00800000, 0x3f000000, 0xbf000000, 0x3f800000, 0xbf800000, 0x40000000, 0xc0000000, 0x40490fdb, 0x41100000, 0xc1100000, 0x7f7fffff, 0xff7fffff, inf, 0xff800000, nan, 0xffc00000, 0x7f800001, 0xff923456}, [4][]uint32{
			{0, minus, 1, 0x80000001, 0x007fffff, 0x807fffff, 0x00800000, 0x3f000000, 0xbf000000, 0x3f800000, 0xbf800000, 0x40000000, 0xc0000000, 0x40490fdb, 0x41100000, 0xc1100000, 0x7f7fffff, 0xff7fffff, inf, 0xff800000, nan, nan, nan, nan},
			{0, 0, 1, 0, 0x007fffff, 0, 0x00800000, 0x3f000000, 0, 0x3f800000, 0, 0x40000000, 0, 0x40490fdb, 0x41100000, 0, 0x7f7fffff, 0, inf, 0, nan, nan, nan, nan},
			{0, minus, 0, minus, 0, minus, 0, 0x3eec9a9e, 0xbeec9a9e, 0x3f42f7d6, 0xbf42f7d6, 0x3f76ca83, 0xbf76ca83, 0x3f7f0bb0, 0x3f7fffff, 0xbf7fffff, 0x3f800000, 0xbf800000, 0x3f800000, 0xbf800000, nan, nan, nan, nan},
			{0, minus, 0, minus, 0x00400000, 0x80400000, 0x00400000, 0x3eb1016e, 0xbe1dfd25, 0x3f57585c, 0xbe229e90, 0x3ffa3042, 0xbd39f7c0, 0x4048ea6e, 0x41100000, minus, 0x7f7fffff, minus, inf, nan, nan, nan, nan, nan}}},
	} {
		for kind, name := range kinds() {
			for _, rows := range []int{1, 2, 4, 6, 12, 24} {
				cols := len(x.l) / rows
				got, e := Forward(kind, of(rows, cols, x.w.f, x.l...))
				holdTensor(t, "P15.2: Forward of "+name+", "+x.w.name, got, e, of(rows, cols, x.w.f, x.want[kind]...), api.OK)
			}
		}
	}
}

// P15.2: what lies halfway between two numbers of the format becomes the even one.
func TestForwardToTheEvenOne(t *testing.T) {
	for _, x := range []struct {
		kind    int
		w       layout
		z, want uint32
	}{
		{api.Tanh, half, 0x2741, 0x2740}, {api.Tanh, half, 0x2743, 0x2742}, {api.Tanh, half, 0xa893, 0xa892}, {api.Tanh, half, 0x2a9a, 0x2a98}, {api.Tanh, half, 0x2ecb, 0x2ec4},
		{api.Gelu, half, 0x0001, 0x0000}, {api.Gelu, half, 0x8001, 0x8000}, {api.Gelu, half, 0x2720, 0x2348}, {api.Gelu, half, 0x35a7, 0x3336}, {api.Gelu, half, 0x957c, 0x917a}, {api.Gelu, half, 0xb3fe, 0xae6a},
		{api.Gelu, brain, 0x0001, 0x0000}, {api.Gelu, brain, 0x0005, 0x0002}, {api.Gelu, brain, 0x8009, 0x8004}, {api.Gelu, brain, 0x0003, 0x0002}, {api.Gelu, brain, 0x8007, 0x8004},
	} {
		got, e := Forward(x.kind, of(1, 1, x.w.f, x.z))
		holdTensor(t, "P15.2: Forward of "+kinds()[x.kind]+", "+x.w.name, got, e, of(1, 1, x.w.f, x.want), api.OK)
	}
}

// all is all numbers of a format of 16 bits, as a tensor.
func (w layout) all() api.Tensor {
	t := of(256, 256, w.f)
	for v := range uint32(1 << 16) {
		t.V = append(t.V, v)
	}
	return t
}

// P15.2: each number of Half and of Brain, and Singles of all sizes: widened, the value of it, narrowed.
func TestForwardOfAll(t *testing.T) {
	l := numbers()
	for _, z := range []api.Tensor{half.all(), brain.all(), of(len(l)/4, 4, api.Single, l[:len(l)/4*4]...), of(1, 1000, api.Single, l[:1000]...)} {
		for kind, name := range kinds() {
			got, e := Forward(kind, z)
			holdTensor(t, "P15.2: Forward of "+name+", "+layouts()[z.F].name, got, e, forwards(kind, z), api.OK)
		}
	}
}

// P15.2: each number of Half and of Brain, and Singles without a pattern, are as they
// were reckoned elsewhere, by another program in another language.
func TestForwardSameEverywhere(t *testing.T) {
	near, mixed := single.near(64, 64, 51), single.mixed(64, 64, 52)
	for _, x := range []struct {
		l    []api.Tensor
		want [4]uint64
	}{
		{[]api.Tensor{half.all()}, [4]uint64{0x63c030a47c7c5b25, 0xdfb22b85c8b1eb25, 0x92e77175bd12c229, 0x2f724873ea7e1f5}},
		{[]api.Tensor{brain.all()}, [4]uint64{0xc695e77cf6609c25, 0xd9373d05d0a93225, 0x68d1804ed3f1130d, 0xd593ef1951af3747}},
		{[]api.Tensor{near, mixed}, [4]uint64{0x1479b9046a8f3d5d, 0x628c7c330eb2412b, 0x7083222b3bdf6f31, 0xdbff17b2bed42098}},
	} {
		for kind, name := range kinds() {
			var told [][]uint32
			for _, z := range x.l {
				got, _ := Forward(kind, z)
				told = append(told, got.V)
			}
			if digest(told...) != x.want[kind] {
				t.Errorf("P15.2: Forward of %s, %s makes %#x, not %#x", name, layouts()[x.l[0].F].name, digest(told...), x.want[kind])
			}
		}
	}
}

// P15.2: a tensor of no rows, of no columns, of neither is told as it is, with a list that is nil, that is empty.
func TestForwardOfNothing(t *testing.T) {
	for _, w := range layouts() {
		for kind, name := range kinds() {
			for _, n := range []int{0, 1, 5, 4095, 4096} {
				for _, l := range [][]uint32{nil, {}, make([]uint32, 0, 9)} {
					for _, z := range []api.Tensor{of(0, n, w.f, l...), of(n, 0, w.f, l...)} {
						got, e := Forward(kind, z)
						holdTensor(t, "P15.2: Forward of nothing, "+name, got, e, z, api.OK)
						got, e = Back(kind, z, z)
						holdTensor(t, "P15.2: Back of nothing, "+name, got, e, z, api.OK)
					}
				}
			}
		}
	}
}

// P15.2: as many numbers as a tensor has at most, which are more than MaxCells, the last one too.
func TestAtMost(t *testing.T) {
	const width = api.MaxWidth
	z := of(width, width, api.Brain, make([]uint32, width*width)...)
	last := len(z.V) - 1
	z.V[1], z.V[width-1], z.V[last-1], z.V[last] = 0x3f80, 0xbf80, 0xc000, 0x4000
	want := of(width, width, api.Brain, make([]uint32, width*width)...)
	want.V[1], want.V[last] = 0x3f80, 0x4000
	got, e := Forward(api.Relu, z)
	holdTensor(t, "P15.2: Forward at most", got, e, want, api.OK)
	want.V[1], want.V[last] = 0x3f80, 0x4000 // each times 1
	got, e = Back(api.Relu, z, z)
	for i, v := range z.V { // a number below nought times Zero has its sign
		if v>>15 == 1 {
			want.V[i] = 0x8000
		}
	}
	holdTensor(t, "P15.2: Back at most", got, e, want, api.OK)
}
