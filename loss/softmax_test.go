package loss

import (
	"testing"

	"anneal/api"
)

// softmaxRow is a tensor and labels, and what Softmax makes of them.
type softmaxRow struct {
	w          layout
	rows, cols int
	z          []uint32
	y          []int
	loss       uint32
	slopes     []uint32
}

// P16.1: rows that are written out: noughts of either sign, subnormal numbers, the
// greatest ones, infinities, NaNs of either kind and sign, in each format.
func TestSoftmaxRows(t *testing.T) {
	for _, x := range []softmaxRow{
		// one number alone
		{half, 1, 1, []uint32{0}, []int{0}, 0, []uint32{0}},
		{half, 1, 1, []uint32{0x8000}, []int{0}, 0, []uint32{0}},
		{half, 1, 1, []uint32{1}, []int{0}, 0, []uint32{0}},
		{half, 1, 1, []uint32{0x3c00}, []int{0}, 0, []uint32{0}},
		{half, 1, 1, []uint32{0xfbff}, []int{0}, 0, []uint32{0}},
		{half, 1, 1, []uint32{0x7c00}, []int{0}, nan, []uint32{nan}},
		{half, 1, 1, []uint32{0xfc00}, []int{0}, nan, []uint32{nan}},
		{half, 1, 1, []uint32{0x7e00}, []int{0}, nan, []uint32{nan}},
		{half, 1, 1, []uint32{0x7c01}, []int{0}, nan, []uint32{nan}},
		{brain, 1, 1, []uint32{0}, []int{0}, 0, []uint32{0}},
		{brain, 1, 1, []uint32{0x8000}, []int{0}, 0, []uint32{0}},
		{brain, 1, 1, []uint32{1}, []int{0}, 0, []uint32{0}},
		{brain, 1, 1, []uint32{0x3f80}, []int{0}, 0, []uint32{0}},
		{brain, 1, 1, []uint32{0xff7f}, []int{0}, 0, []uint32{0}},
		{brain, 1, 1, []uint32{0x7f80}, []int{0}, nan, []uint32{nan}},
		{brain, 1, 1, []uint32{0xff80}, []int{0}, nan, []uint32{nan}},
		{brain, 1, 1, []uint32{0x7fc0}, []int{0}, nan, []uint32{nan}},
		{brain, 1, 1, []uint32{0xff81}, []int{0}, nan, []uint32{nan}},
		{single, 1, 1, []uint32{0}, []int{0}, 0, []uint32{0}},
		{single, 1, 1, []uint32{minus}, []int{0}, 0, []uint32{0}},
		{single, 1, 1, []uint32{1}, []int{0}, 0, []uint32{0}},
		{single, 1, 1, []uint32{0x80000001}, []int{0}, 0, []uint32{0}},
		{single, 1, 1, []uint32{0x429a0000}, []int{0}, 0, []uint32{0}},
		{single, 1, 1, []uint32{0x7f7fffff}, []int{0}, 0, []uint32{0}},
		{single, 1, 1, []uint32{0xff7fffff}, []int{0}, 0, []uint32{0}},
		{single, 1, 1, []uint32{inf}, []int{0}, nan, []uint32{nan}},
		{single, 1, 1, []uint32{0xff800000}, []int{0}, nan, []uint32{nan}},
		{single, 1, 1, []uint32{nan}, []int{0}, nan, []uint32{nan}},
		{single, 1, 1, []uint32{0xffc00000}, []int{0}, nan, []uint32{nan}},
		{single, 1, 1, []uint32{0x7f800001}, []int{0}, nan, []uint32{nan}},
		// ordinary ones, in each format
		{half, 2, 2, []uint32{0x3c00, 0x4000, 0x4200, 0xc000}, []int{1, 1}, 0x402a3d41, []uint32{0x3e09b2b1, 0xbe09b2b2, 0x3efe4961, 0xbefe4961}},
		{brain, 2, 2, []uint32{0x3f80, 0x4000, 0x4040, 0xc000}, []int{1, 1}, 0x402a3d41, []uint32{0x3e09b2b1, 0xbe09b2b2, 0x3efe4961, 0xbefe4961}},
		{single, 2, 2, []uint32{0x3f800000, 0x40000000, 0x40400000, 0xc0000000}, []int{1, 1}, 0x402a3d41, []uint32{0x3e09b2b1, 0xbe09b2b2, 0x3efe4961, 0xbefe4961}},
		{half, 2, 3, []uint32{0x3c00, 0x3800, 0xb800, 0x2e66, 0x3266, 0x34cd}, []int{0, 2}, 0x3f4d9208, []uint32{0xbe682aae, 0x3e29ba3b, 0x3d79c1ca, 0x3e19e8c3, 0x3e2a1783, 0xbea20024}},
		{brain, 2, 3, []uint32{0x3f80, 0x3f00, 0xbf00, 0x3dcd, 0x3e4d, 0x3e9a}, []int{0, 2}, 0x3f4d86b4, []uint32{0xbe682aae, 0x3e29ba3b, 0x3d79c1ca, 0x3e19de56, 0x3e2a114e, 0xbea1f7d2}},
		{single, 2, 3, []uint32{0x3f800000, 0x3f000000, 0xbf000000, 0x3dcccccd, 0x3e4ccccd, 0x3e99999a}, []int{0, 2}, 0x3f4d93d1, []uint32{0xbe682aae, 0x3e29ba3b, 0x3d79c1ca, 0x3e19e981, 0x3e2a1965, 0xbea20173}},
		// rows that are alike in all their numbers
		{half, 1, 3, []uint32{0x4500, 0x4500, 0x4500}, []int{1}, 0x3f8c9f54, []uint32{0x3eaaaaab, 0xbf2aaaaa, 0x3eaaaaab}},
		{half, 1, 3, []uint32{0x7bff, 0x7bff, 0x7bff}, []int{1}, 0x3f8c9f54, []uint32{0x3eaaaaab, 0xbf2aaaaa, 0x3eaaaaab}},
		{brain, 1, 3, []uint32{0x40a0, 0x40a0, 0x40a0}, []int{1}, 0x3f8c9f54, []uint32{0x3eaaaaab, 0xbf2aaaaa, 0x3eaaaaab}},
		{brain, 1, 3, []uint32{0xff7f, 0xff7f, 0xff7f}, []int{1}, 0x3f8c9f54, []uint32{0x3eaaaaab, 0xbf2aaaaa, 0x3eaaaaab}},
		{single, 1, 3, []uint32{0x40a00000, 0x40a00000, 0x40a00000}, []int{1}, 0x3f8c9f54, []uint32{0x3eaaaaab, 0xbf2aaaaa, 0x3eaaaaab}},
		{single, 1, 3, []uint32{0xff7fffff, 0xff7fffff, 0xff7fffff}, []int{1}, 0x3f8c9f54, []uint32{0x3eaaaaab, 0xbf2aaaaa, 0x3eaaaaab}},
		{single, 1, 3, []uint32{1, 1, 1}, []int{1}, 0x3f8c9f54, []uint32{0x3eaaaaab, 0xbf2aaaaa, 0x3eaaaaab}},
		{single, 1, 2, []uint32{0, minus}, []int{0}, 0x3f317218, []uint32{0xbf000000, 0x3f000000}},
		{single, 1, 2, []uint32{minus, 0}, []int{0}, 0x3f317218, []uint32{0xbf000000, 0x3f000000}},
		{half, 1, 2, []uint32{0x8000, 0}, []int{1}, 0x3f317218, []uint32{0x3f000000, 0xbf000000}},
		{half, 3, 2, []uint32{0x4500, 0x4500, 0, 0, 0xc500, 0xc500}, []int{0, 1, 0}, 0x3f317218, []uint32{0xbe2aaaab, 0x3e2aaaab, 0x3e2aaaab, 0xbe2aaaab, 0xbe2aaaab, 0x3e2aaaab}},
		// numbers that are far apart, or hardly
		{single, 1, 2, []uint32{0, 0x42c80000}, []int{0}, 0x42c80000, []uint32{0xbf800000, 0x3f800000}},
		{single, 1, 2, []uint32{0, 0x42c80000}, []int{1}, 0, []uint32{0x1b, 0}},
		{single, 2, 2, []uint32{0, 0x42c80000, 0, 0x42c80000}, []int{1, 1}, 0, []uint32{0xe, 0, 0xe, 0}},
		{single, 1, 2, []uint32{0x42aeac50, 0}, []int{1}, 0x42aeac50, []uint32{0x3f800000, 0xbf800000}},
		{single, 1, 2, []uint32{0x42cff1b5, 0}, []int{0}, 0, []uint32{0, 0}},
		{single, 1, 2, []uint32{0x42cff1b5, 0}, []int{1}, 0x42cff1b5, []uint32{0x3f800000, 0xbf800000}},
		{single, 1, 2, []uint32{0x42cff1b6, 0}, []int{1}, 0x42cff1b6, []uint32{0x3f800000, 0xbf800000}},
		{single, 1, 2, []uint32{0x7f7fffff, 0xff7fffff}, []int{0}, 0, []uint32{0, 0}},
		{single, 1, 2, []uint32{0x7f7fffff, 0xff7fffff}, []int{1}, inf, []uint32{0x3f800000, 0xbf800000}},
		{single, 2, 2, []uint32{0x7f7fffff, 0xff7fffff, 0, 0}, []int{1, 0}, inf, []uint32{0x3f000000, 0xbf000000, 0xbe800000, 0x3e800000}},
		{single, 2, 2, []uint32{0x7f7fffff, 0, 0x7f7fffff, 0}, []int{1, 1}, inf, []uint32{0x3f000000, 0xbf000000, 0x3f000000, 0xbf000000}},
		{single, 1, 2, []uint32{0x7f7fffff, 0}, []int{1}, 0x7f7fffff, []uint32{0x3f800000, 0xbf800000}},
		{half, 1, 2, []uint32{0x7bff, 0xfbff}, []int{1}, 0x47ffe000, []uint32{0x3f800000, 0xbf800000}},
		{brain, 1, 2, []uint32{0x7f7f, 0xff7f}, []int{1}, inf, []uint32{0x3f800000, 0xbf800000}},
		{brain, 1, 3, []uint32{0x7f7f, 0, 0x7f7f}, []int{0}, 0x3f317218, []uint32{0xbf000000, 0, 0x3f000000}},
		{single, 1, 2, []uint32{1, 0x7fffff}, []int{0}, 0x3f317218, []uint32{0xbf000000, 0x3f000000}},
		{single, 1, 3, []uint32{0x80000001, 0, 1}, []int{2}, 0x3f8c9f54, []uint32{0x3eaaaaab, 0x3eaaaaab, 0xbf2aaaaa}},
		{half, 1, 2, []uint32{1, 0x3ff}, []int{0}, 0x3f317417, []uint32{0xbf000100, 0x3f000100}},
		// infinities
		{single, 1, 2, []uint32{inf, 0}, []int{0}, nan, []uint32{nan, nan}},
		{single, 1, 2, []uint32{inf, 0}, []int{1}, nan, []uint32{nan, nan}},
		{single, 1, 2, []uint32{0, inf}, []int{0}, nan, []uint32{nan, nan}},
		{single, 1, 2, []uint32{0, inf}, []int{1}, nan, []uint32{nan, nan}},
		{single, 1, 2, []uint32{0xff800000, 0}, []int{0}, inf, []uint32{0xbf800000, 0x3f800000}},
		{single, 1, 2, []uint32{0xff800000, 0}, []int{1}, 0, []uint32{0, 0}},
		{single, 1, 2, []uint32{0, 0xff800000}, []int{0}, 0, []uint32{0, 0}},
		{single, 1, 2, []uint32{0, 0xff800000}, []int{1}, inf, []uint32{0x3f800000, 0xbf800000}},
		{single, 1, 2, []uint32{0xff800000, 0xff800000}, []int{0}, nan, []uint32{nan, nan}},
		{single, 1, 2, []uint32{0xff800000, 0xff800000}, []int{1}, nan, []uint32{nan, nan}},
		{single, 1, 2, []uint32{inf, inf}, []int{0}, nan, []uint32{nan, nan}},
		{single, 1, 2, []uint32{inf, inf}, []int{1}, nan, []uint32{nan, nan}},
		{single, 1, 2, []uint32{inf, 0xff800000}, []int{0}, nan, []uint32{nan, nan}},
		{single, 1, 2, []uint32{inf, 0xff800000}, []int{1}, nan, []uint32{nan, nan}},
		{half, 1, 2, []uint32{0xfc00, 0x3c00}, []int{0}, inf, []uint32{0xbf800000, 0x3f800000}},
		{brain, 1, 2, []uint32{0xff80, 0x3f80}, []int{0}, inf, []uint32{0xbf800000, 0x3f800000}},
		{half, 1, 2, []uint32{0x7c00, 0x3c00}, []int{1}, nan, []uint32{nan, nan}},
		{single, 2, 2, []uint32{0xff800000, 0, 0, 0}, []int{0, 1}, inf, []uint32{0xbf000000, 0x3f000000, 0x3e800000, 0xbe800000}},
		{single, 2, 2, []uint32{0xff800000, 0, inf, 0}, []int{0, 1}, nan, []uint32{0xbf000000, 0x3f000000, nan, nan}},
		// NaNs, that spoil their own row of slopes, and the loss
		{single, 1, 2, []uint32{nan, 0x3f800000}, []int{1}, nan, []uint32{nan, nan}},
		{single, 1, 2, []uint32{0x3f800000, nan}, []int{1}, nan, []uint32{nan, nan}},
		{single, 1, 2, []uint32{0xffc00000, 0x3f800000}, []int{1}, nan, []uint32{nan, nan}},
		{single, 1, 2, []uint32{0x7f800001, 0x3f800000}, []int{1}, nan, []uint32{nan, nan}},
		{single, 1, 2, []uint32{0x3f800000, 0xff812345}, []int{1}, nan, []uint32{nan, nan}},
		{single, 1, 2, []uint32{nan, nan}, []int{1}, nan, []uint32{nan, nan}},
		{single, 1, 2, []uint32{nan, 0xff800000}, []int{1}, nan, []uint32{nan, nan}},
		{single, 1, 2, []uint32{inf, nan}, []int{1}, nan, []uint32{nan, nan}},
		{half, 1, 3, []uint32{0x3c00, 0xfe00, 0x3c00}, []int{0}, nan, []uint32{nan, nan, nan}},
		{half, 1, 3, []uint32{0x7c01, 0x3c00, 0x3c00}, []int{0}, nan, []uint32{nan, nan, nan}},
		{brain, 1, 3, []uint32{0x3f80, 0xff81, 0x3f80}, []int{2}, nan, []uint32{nan, nan, nan}},
		{single, 3, 2, []uint32{0x3f800000, 0x3f800000, nan, 0x3f800000, 0x3f800000, 0x40000000}, []int{0, 0, 1}, nan, []uint32{0xbe2aaaab, 0x3e2aaaab, nan, nan, 0x3db798ec, 0xbdb798ed}},
	} {
		got := allOf(Softmax(of(x.rows, x.cols, x.w.f, x.z...), x.y))
		hold(t, "P16.1: Softmax of "+x.w.name, got, x.loss, of(x.rows, x.cols, api.Single, x.slopes...))
	}
}

// P16.1: each operation is rounded by itself, in the order that is written: of each of
// these another way to the same real number tells another last bit.
func TestSoftmaxJustSo(t *testing.T) {
	for _, x := range []struct {
		other      string
		rows, cols int
		z          []uint32
		y          []int
		loss       uint32
		slopes     []uint32
	}{
		{"m as the last one", 2, 2, []uint32{0x3ebd8063, 0xbeb92f68, 0x3e800542, 0x3e51478b}, []int{1, 1}, 0x3f6b9f1f, []uint32{0x3eacda10, 0xbeacda10, 0x3e82ec0e, 0xbe82ec0e}},
		{"m as the last one", 1, 2, []uint32{0xbe6bd4b1, 0xbf6b8161}, []int{0}, 0x3ed0328d, []uint32{0xbeab10e4, 0x3eab10e6}},
		{"m as the label's", 1, 2, []uint32{0xbe0000ce, 0x3e0f8dcc}, []int{0}, 0x3f55a25c, []uint32{0xbf10dfa0, 0x3f10dfa0}},
		{"m as the label's", 1, 3, []uint32{0xbfd7e912, 0xbe61f80f, 0x3e80051b}, []int{0}, 0x40207438, []uint32{0xbf6b2280, 0x3eb4cb49, 0x3f10bcdc}},
		{"nothing taken from z", 1, 2, []uint32{0x3fc3406a, 0x3e0000d5}, []int{1}, 0x3fcf745b, []uint32{0x3f4d6015, 0xbf4d6015}},
		{"nothing taken from z", 3, 2, []uint32{0xbfb3d68e, 0x3ebbb31b, 0x3f0790d2, 0xbe80036b, 0x3e8007bc, 0x3e67f489}, []int{0, 1, 0}, 0x3fa0bb47, []uint32{0xbe91dc70, 0x3e91dc71, 0x3e6a03b9, 0xbe6a03bb, 0xbe28a871, 0x3e28a872}},
		{"Exp of z by Exp of m", 2, 3, []uint32{0x3f15f29e, 0x3eb38195, 0x3e9c8a30, 0x3f5bf38a, 0xbe9c5edb, 0x3e4fc214}, []int{2, 0}, 0x3f68e15e, []uint32{0x3e491467, 0x3e1ef23d, 0xbeb40352, 0xbe6857f4, 0x3dae8868, 0x3e1113c1}},
		{"Exp of z by Exp of m", 1, 2, []uint32{0xbf000554, 0xbf1c7d71}, []int{1}, 0x3f401368, []uint32{0x3f071c27, 0xbf071c27}},
		{"s from the last one on", 1, 3, []uint32{0x3e8003c5, 0xbe800117, 0x3e5bfcdb}, []int{0}, 0x3f71d4da, []uint32{0xbf1c76ae, 0x3e717a83, 0x3ec0301a}},
		{"s from the last one on", 1, 4, []uint32{0xbf8007fa, 0x3e7a07de, 0xbf00017c, 0xbf586682}, []int{1}, 0x3f3de3a5, []uint32{0x3e0c836e, 0xbf0612b0, 0x3e67b7f5, 0x3e240f5b}},
		{"s from the label on", 1, 3, []uint32{0xbe00064a, 0xbf743da1, 0x3ed8d052}, []int{2}, 0x3f1ab54a, []uint32{0x3ea1a977, 0x3e0d1ed1, 0xbee838e0}},
		{"s from the label on", 1, 3, []uint32{0x3e808ceb, 0x3fdd74bd, 0x3ff69255}, []int{2}, 0x3f329b63, []uint32{0x3dbee280, 0x3ed17001, 0xbf009450}},
		{"s pair by pair", 1, 4, []uint32{0xbe000170, 0xbe538dde, 0x3f4af728, 0xbefbba94}, []int{1}, 0x3fdb73a2, []uint32{0x3e480e43, 0xbf51e79a, 0x3efa7509, 0x3e0aa611}},
		{"s pair by pair", 1, 4, []uint32{0xbeccc08e, 0x3f5c561b, 0x3e3eb1bb, 0x3f0e3851}, []int{0}, 0x400c151c, []uint32{0xbf635088, 0x3eca607a, 0x3e4e3186, 0x3e9527d1}},
		{"z taken ahead of m", 3, 2, []uint32{0xbf68636a, 0xbf800190, 0xbf8e16e1, 0xbe4b6cb4, 0xbf0690e5, 0x3efc385b}, []int{0, 0, 0}, 0x3f898eb4, []uint32{0xbe22cc31, 0x3e22cc31, 0xbe737839, 0x3e737839, 0xbe7ac15b, 0x3e7ac15b}},
		{"z taken ahead of m", 1, 2, []uint32{0xbf80070a, 0xbe800785}, []int{1}, 0x3ec60d56, []uint32{0x3ea43e31, 0xbea43e32}},
		{"m added ahead of z", 3, 2, []uint32{0xbe983080, 0xbf00027b, 0xbea95faa, 0xbf744cce, 0xbe00068c, 0x3f2b585c}, []int{1, 1, 0}, 0x3f80d600, []uint32{0x3e3be9a0, 0xbe3be9a0, 0x3e5e3644, 0xbe5e3644, 0xbe6b1905, 0x3e6b1904}},
		{"m added ahead of z", 1, 3, []uint32{0xbe800108, 0x3f0f27b3, 0xbe547a98}, []int{1}, 0x3f25a028, []uint32{0x3e6eb834, 0xbef3e71e, 0x3e791606}},
		{"Log of e taken from Log of s", 1, 2, []uint32{0x3e251866, 0x3e55e6d9}, []int{0}, 0x3f379e82, []uint32{0xbf030cc1, 0x3f030cc2}},
		{"Log of e taken from Log of s", 1, 3, []uint32{0x3e000324, 0x3e84e987, 0xbf8005fb}, []int{0}, 0x3f6756f4, []uint32{0xbf184cac, 0x3eed4766, 0x3e06a3ea}},
		{"Log of e by s, its sign turned", 1, 2, []uint32{0xbf0006ed, 0x3f800242}, []int{0}, 0x3fd9cc96, []uint32{0xbf514e44, 0x3f514e44}},
		{"Log of e by s, its sign turned", 1, 2, []uint32{0xbeb7cb59, 0xbe80073e}, []int{1}, 0x3f23e233, []uint32{0x3ef21280, 0xbef2127e}},
		{"Log of s by e", 2, 3, []uint32{0x3fed35fa, 0x3e00039d, 0xbf3df8c5, 0x3f2ce89e, 0x3e00028a, 0x3f3b79be}, []int{1, 0}, 0x3fbb03c0, []uint32{0x3ecc6f7a, 0xbedbb0fb, 0x3cf4181c, 0xbe9edb21, 0x3de0188f, 0x3e4da9fc}},
		{"Log of s by e", 3, 2, []uint32{0x3fdb2ee1, 0x3e0b6de7, 0x3fc44442, 0xbfa63d1f, 0xbe800186, 0xbe753d9a}, []int{0, 1, 0}, 0x3fa11831, []uint32{0xbd69ed5b, 0x3d69ed5c, 0x3ea12ccb, 0xbea12ccb, 0xbe2b9074, 0x3e2b9074}},
		{"each row's loss by n", 3, 2, []uint32{0x3ec81f25, 0x3f80076d, 0xbeedaf0b, 0xbf27e059, 0x3f0001d5, 0xbe41fcbf}, []int{0, 1, 1}, 0x3f7a4cc5, []uint32{0xbe5d1d40, 0x3e5d1d41, 0x3e3af633, 0xbe3af633, 0x3e6346c0, 0xbe6346c0}},
		{"each row's loss by n", 3, 2, []uint32{0xbe03cae7, 0xbe000115, 0xbff3de2e, 0xbfe339f0, 0xbe047eba, 0x3e0e9f45}, []int{1, 0, 1}, 0x3f2c51dd, []uint32{0x3e2a59d9, 0xbe2a59d9, 0xbe35bed5, 0x3e35bed5, 0x3e13e08d, 0xbe13e08d}},
		{"times 1 by n", 3, 2, []uint32{0xbe000626, 0xbe59d208, 0x3f0006e9, 0xbfef2264, 0xbed27c6f, 0x3f80072c}, []int{1, 0, 0}, 0x3f51a969, []uint32{0x3e322519, 0xbe322518, 0xbce9cbe0, 0x3ce9cbe5, 0xbe893631, 0x3e893631}},
		{"times 1 by n", 3, 2, []uint32{0x3f800697, 0xbe0005e3, 0x3e03b83f, 0x3ea2d208, 0xbeee1536, 0xbe0001df}, []int{0, 0, 1}, 0x3f09776d, []uint32{0xbda7487d, 0x3da7487c, 0xbe3ac755, 0x3e3ac755, 0x3e0dee06, 0xbe0dee05}},
		{"times 1 by s", 1, 2, []uint32{0x3f000717, 0x3f515b95}, []int{1}, 0x3f0bff38, []uint32{0x3ed7ac71, 0xbed7ac72}},
		{"times 1 by s", 1, 2, []uint32{0xbf0001ab, 0x3fc14747}, []int{1}, 0x3e00c1e8, []uint32{0x3df1fb92, 0xbdf1fb98}},
		{"by s times n", 3, 2, []uint32{0x3eb908ea, 0x3f7c8221, 0x3e45c3db, 0xbe87d79b, 0x3f56b6b2, 0xbe80047c}, []int{0, 1, 0}, 0x3f439ae8, []uint32{0xbe5e538d, 0x3e5e538d, 0x3e511dcb, 0xbe511dcb, 0xbdabee50, 0x3dabee51}},
		{"by s times n", 3, 2, []uint32{0xbf7ff59b, 0x3eecdc97, 0x3f561373, 0x3e8005c5, 0xbfc04eef, 0xbf83d35f}, []int{0, 0, 0}, 0x3f82ffcb, []uint32{0xbe8a90d7, 0x3e8a90d7, 0xbdf40f50, 0x3df40f4d, 0xbe52412d, 0x3e52412d}},
		{"each by n, then apart", 3, 2, []uint32{0x3f000389, 0xbe800574, 0xbe0004d9, 0x3f033f4a, 0x3e800575, 0x3e8e52fc}, []int{1, 1, 1}, 0x3f3f308b, []uint32{0x3e67d55c, 0xbe67d55c, 0x3dec0afb, 0xbdec0afd, 0x3e284873, 0xbe284874}},
		{"each by n, then apart", 3, 2, []uint32{0xbfaba0ec, 0x3e30ae87, 0x3f2873f7, 0xbf800240, 0xbe000072, 0xbf77162a}, []int{0, 1, 0}, 0x3fa68e4d, []uint32{0xbe8bdf40, 0x3e8bdf41, 0x3e8f5b56, 0xbe8f5b57, 0xbdcdd265, 0x3dcdd263}},
		{"s taken from e, then by s", 2, 2, []uint32{0x3fd50cb9, 0xbeafb09c, 0x3e0005dc, 0x3e4bf8e0}, []int{0, 1}, 0x3ec863fe, []uint32{0xbd727fc8, 0x3d727fc9, 0x3e7682bd, 0xbe7682bc}},
		{"s taken from e, then by s", 2, 2, []uint32{0xbea7e17a, 0x3f299eff, 0xbf0006f4, 0xbe776862}, []int{1, 0}, 0x3f12c266, []uint32{0x3e0aa8b5, 0xbe0aa8b6, 0xbe9073ca, 0x3e9073ca}},
		{"e to the power of z - m - Log(s)", 1, 2, []uint32{0xbfeb06ab, 0x3e25c4b4}, []int{1}, 0x3e023736, []uint32{0x3df48d80, 0xbdf48d80}},
		{"e to the power of z - m - Log(s)", 1, 2, []uint32{0xbe651941, 0xbfe20a79}, []int{1}, 0x3fde3730, []uint32{0x3f52e3ad, 0xbf52e3ad}},
		{"rows from the last one on", 3, 2, []uint32{0xbf76b8c5, 0xbfec4ad7, 0xbec55af9, 0xbf31c4d6, 0x3e000115, 0x3f466015}, []int{1, 1, 1}, 0x3f560813, []uint32{0x3e716c48, 0xbe716c48, 0x3e44d29b, 0xbe44d29b, 0x3dea29b9, 0xbdea29bb}},
		{"rows from the last one on", 3, 2, []uint32{0xbff066bf, 0x3e32588f, 0x3f9e8b18, 0xbe918f2d, 0xbf5083f8, 0x3e800433}, []int{1, 0, 0}, 0x3f0f4577, []uint32{0x3d1b66fe, 0xbd1b66fb, 0xbd747075, 0x3d747070, 0xbe7dcd1d, 0x3e7dcd1f}},
		{"the sum times 1 by n", 3, 2, []uint32{0x3e2d8597, 0x3ec1759e, 0xbf3055f1, 0xbe8007da, 0xbff22380, 0x3e087010}, []int{0, 1, 1}, 0x3ef318b9, []uint32{0xbe3c62bb, 0x3e3c62bc, 0x3e05d0d9, 0xbe05d0d8, 0x3d1f358d, 0xbd1f3590}},
		{"the sum times 1 by n", 3, 2, []uint32{0xbe0d97d6, 0xbe7c13dd, 0xbe54dbd0, 0x3e0004c2, 0x3e00035e, 0xbff2ca8f}, []int{1, 1, 0}, 0x3ef13811, []uint32{0x3e33dd63, 0xbe33dd63, 0x3e0e850a, 0xbe0e850b, 0xbd1fa65b, 0x3d1fa659}},
		{"each row times 1 by n", 3, 2, []uint32{0x3f74d255, 0xbe1838c2, 0xbf49fe7f, 0xbf9cb311, 0x3ef3188a, 0xbe00011d}, []int{1, 0, 1}, 0x3f79cfed, []uint32{0x3e803427, 0xbe803427, 0xbe061b5c, 0x3e061b5d, 0x3e5c5e54, 0xbe5c5e53}},
		{"each row times 1 by n", 3, 2, []uint32{0x3ee7f1b3, 0x3f800102, 0x3ef09d27, 0xbf000678, 0xbf2f0032, 0x3e8006b1}, []int{0, 1, 1}, 0x3f6022e7, []uint32{0xbe583713, 0x3e583713, 0x3e7782bc, 0xbe7782bd, 0x3dc0a373, 0xbdc0a373}},
		{"rows pair by pair", 4, 2, []uint32{0x3f000755, 0xbffd8612, 0x3fae074f, 0xbe2a8c88, 0x3e0000f5, 0xbf6c3eac, 0x3f742774, 0xbe18bf94}, []int{1, 1, 1, 0}, 0x3fbd68c5, []uint32{0x3e6c3b78, 0xbe6c3b77, 0x3e524a0b, 0xbe524a0a, 0x3e3d882a, 0xbe3d882a, 0xbd7f2db4, 0x3d7f2db6}},
		{"rows pair by pair", 4, 2, []uint32{0x3efcda16, 0x3eb97d46, 0xbf00071a, 0x3f57e9db, 0xbf800758, 0xbe84da9a, 0xbf8002d6, 0x3e800353}, []int{0, 1, 0, 1}, 0x3f0f9b8f, []uint32{0xbdef2f02, 0x3def2f01, 0x3d53e5e9, 0xbd53e5ec, 0xbe2d5a42, 0x3e2d5a42, 0x3d64066d, 0xbd640670}},
	} {
		got := allOf(Softmax(of(x.rows, x.cols, api.Single, x.z...), x.y))
		hold(t, "P16.1: Softmax, not "+x.other, got, x.loss, of(x.rows, x.cols, api.Single, x.slopes...))
	}
}

// P16.1: tensors without a pattern, of all shapes, against the machine's floats.
func TestSoftmaxOfMany(t *testing.T) {
	for i, s := range manyShapes() {
		for _, w := range layouts() {
			for _, z := range kindsOf(w, s.rows, s.cols, uint64(i+1)) {
				y := labels(s.rows, s.cols, uint64(i+900))
				loss, slopes := softmaxed(z, y)
				hold(t, "P16.1: Softmax of "+w.name, allOf(Softmax(z, y)), loss, slopes)
			}
		}
	}
}

// P16.1: each two edges of a format, as a row of two, with either label.
func TestSoftmaxOfEdges(t *testing.T) {
	for _, w := range layouts() {
		for _, a := range w.edges() {
			for _, b := range w.edges() {
				for label := range 2 {
					z, y := of(1, 2, w.f, a, b), []int{label}
					loss, slopes := softmaxed(z, y)
					hold(t, "P16.1: Softmax of two of "+w.name, allOf(Softmax(z, y)), loss, slopes)
				}
			}
		}
	}
}

// P16.1: tensors without a pattern are as they were reckoned elsewhere, by another program in another language.
func TestSoftmaxSameEverywhere(t *testing.T) {
	for _, x := range []struct {
		w    layout
		want [4]uint64
	}{
		{half, [4]uint64{0x9c8f6b7036ea2f74, 0x4034ddfc733392f2, 0xcad4a276a510b9e9, 0xb8fe14894ca5f4fc}},
		{brain, [4]uint64{0x5432902c2eed13ab, 0x4cfb1d723a4c8937, 0x8b59271cac39bcfb, 0x8556c7800251bf9d}},
		{single, [4]uint64{0x2278155d298162b9, 0xf5c649a99940bd3a, 0x7714b5bca0c826ee, 0x90eaa9ec6c34ca91}},
	} {
		for kind := range x.want {
			var told [][]uint32
			for i, s := range manyShapes()[:10] {
				z := kindsOf(x.w, s.rows, s.cols, uint64(i+31))[kind]
				loss, slopes, _ := Softmax(z, labels(s.rows, s.cols, uint64(i+41)))
				told = append(told, []uint32{loss}, slopes.V)
			}
			if digest(told...) != x.want[kind] {
				t.Errorf("P16.1: Softmax of %s, kind %d, makes %#x, not %#x", x.w.name, kind, digest(told...), x.want[kind])
			}
		}
	}
}

// P16.1: a loss of no rows is nought, of any columns; its slopes are a Single tensor of that shape.
func TestSoftmaxOfNoRows(t *testing.T) {
	for _, w := range layouts() {
		for _, cols := range []int{0, 1, 5, 4095, 4096} {
			for _, l := range [][]uint32{nil, {}, make([]uint32, 0, 9)} {
				for _, y := range [][]int{nil, {}, make([]int, 0, 9)} {
					hold(t, "P16.1: Softmax of no rows", allOf(Softmax(of(0, cols, w.f, l...), y)), 0, of(0, cols, api.Single))
				}
			}
		}
	}
}

// P16.1: each column may be the label, the last one too; 1 is taken from the label's slope alone.
func TestSoftmaxOfEachLabel(t *testing.T) {
	const cols = 100
	for label := range cols {
		got := allOf(Softmax(of(1, cols, api.Half, make([]uint32, cols)...), []int{label}))
		want := of(1, cols, api.Single)
		for j := range cols {
			want.V = append(want.V, 0x3c23d70a) // 0.01
			if j == label {
				want.V[j] = 0xbf7d70a4 // 0.01 less 1
			}
		}
		hold(t, "P16.1: Softmax of each label", got, 0x40935d8e, want)
	}
}

// P16.1: as many rows, as many columns as there may be.
func TestSoftmaxAtMost(t *testing.T) {
	const width = api.MaxWidth
	got := allOf(Softmax(of(1, width, api.Brain, make([]uint32, width)...), []int{width - 1}))
	want := of(1, width, api.Single, make([]uint32, width)...)
	for j := range want.V {
		want.V[j] = 0x39800000 // 2^-12
	}
	want.V[width-1] = 0xbf7ff000 // and less 1
	hold(t, "P16.1: Softmax of most columns", got, 0x41051592, want)
	z, y := single.near(width, 16, 5), labels(width, 16, 6)
	loss, slopes := softmaxed(z, y)
	hold(t, "P16.1: Softmax of most rows", allOf(Softmax(z, y)), loss, slopes)
}
