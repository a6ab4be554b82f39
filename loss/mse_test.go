package loss

import (
	"slices"
	"testing"

	"anneal/api"
)

// mseRow is two tensors, and what Mse makes of them.
type mseRow struct {
	v, w       layout
	rows, cols int
	z, t       []uint32
	loss       uint32
	slopes     []uint32
}

// P16.2: numbers that are written out: noughts of either sign, subnormal numbers, the
// greatest ones, infinities, NaNs of either kind and sign, in each format.
func TestMseRows(t *testing.T) {
	for _, x := range []mseRow{
		// ordinary ones, alike ones
		{half, half, 1, 1, []uint32{0x3c00}, []uint32{0xbc00}, 0x40800000, []uint32{0x40800000}},
		{brain, brain, 1, 1, []uint32{0x3f80}, []uint32{0xbf80}, 0x40800000, []uint32{0x40800000}},
		{single, single, 1, 1, []uint32{0x3f800000}, []uint32{0xbf800000}, 0x40800000, []uint32{0x40800000}},
		{single, single, 2, 2, []uint32{0x3f800000, 0x40000000, 0x40400000, 0x40800000}, []uint32{0x3f800000, 0, 0x40400000, 0}, 0x40a00000, []uint32{0, 0x3f800000, 0, 0x40000000}},
		{single, single, 1, 3, []uint32{0x3dcccccd, 0x3e4ccccd, 0x3e99999a}, []uint32{0x3e99999a, 0x3e4ccccd, 0x3dcccccd}, 0x3cda7410, []uint32{0xbe088889, 0, 0x3e088889}},
		{half, half, 1, 3, []uint32{0x2e66, 0x3266, 0x34cd}, []uint32{0x34cd, 0x3266, 0x2e66}, 0x3cda9d05, []uint32{0xbe089555, 0, 0x3e089555}},
		{brain, brain, 3, 1, []uint32{0x3dcd, 0x3e4d, 0x3e9a}, []uint32{0x3e9a, 0x3e4d, 0x3dcd}, 0x3cdbf300, []uint32{0xbe090000, 0, 0x3e090000}},
		{half, half, 1, 2, []uint32{0x4500, 0x4500}, []uint32{0x4500, 0x4500}, 0, []uint32{0, 0}},
		{brain, brain, 1, 2, []uint32{0xff7f, 0xff7f}, []uint32{0xff7f, 0xff7f}, 0, []uint32{0, 0}},
		{single, single, 1, 2, []uint32{0x7f7fffff, 0x7f7fffff}, []uint32{0x7f7fffff, 0x7f7fffff}, 0, []uint32{0, 0}},
		{single, single, 1, 2, []uint32{1, 1}, []uint32{1, 1}, 0, []uint32{0, 0}},
		// of unlike formats: both are widened ahead of all
		{half, single, 1, 2, []uint32{0x3c00, 0xbc00}, []uint32{0x40400000, 0xbf800000}, 0x40000000, []uint32{0xc0000000, 0}},
		{half, brain, 1, 3, []uint32{0x3c01, 0x7bff, 1}, []uint32{0x3f80, 0x4780, 1}, 0x43aaaaab, []uint32{0x3a2aaaab, 0xc1aaaaab, 0x332aaaab}},
		{brain, half, 1, 3, []uint32{0x3f80, 0x4780, 1}, []uint32{0x3c01, 0x7bff, 1}, 0x43aaaaab, []uint32{0xba2aaaab, 0x41aaaaab, 0xb32aaaab}},
		{single, half, 1, 2, []uint32{0x3f800001, 0x33800000}, []uint32{0x3c00, 1}, 0x28000000, []uint32{0x34000000, 0}},
		{brain, single, 1, 2, []uint32{0x3f80, 0xc2c8}, []uint32{0x3f7fffff, 0x42c80001}, 0x469c4000, []uint32{0x33800000, 0xc3480000}},
		// noughts of either sign
		{single, single, 1, 1, []uint32{0}, []uint32{0}, 0, []uint32{0}},
		{single, single, 1, 1, []uint32{0}, []uint32{minus}, 0, []uint32{0}},
		{single, single, 1, 1, []uint32{minus}, []uint32{0}, 0, []uint32{minus}},
		{single, single, 1, 1, []uint32{minus}, []uint32{minus}, 0, []uint32{0}},
		{half, half, 2, 2, []uint32{0, 0x8000, 0, 0x8000}, []uint32{0, 0, 0x8000, 0x8000}, 0, []uint32{0, minus, 0, 0}},
		{brain, half, 1, 2, []uint32{0x8000, 0}, []uint32{0, 0x8000}, 0, []uint32{minus, 0}},
		// subnormal numbers
		{single, single, 1, 1, []uint32{1}, []uint32{0}, 0, []uint32{2}},
		{single, single, 1, 3, []uint32{1, 0, 0x80000001}, []uint32{0, 0, 1}, 0, []uint32{1, 0, 0x80000001}},
		{single, single, 1, 4, []uint32{1, 2, 3, 0x80000001}, []uint32{0, 0, 0, 0}, 0, []uint32{0, 1, 2, minus}},
		{single, single, 1, 5, []uint32{1, 2, 3, 4, 5}, []uint32{0, 0, 0, 0, 0}, 0, []uint32{0, 1, 1, 2, 2}},
		{single, single, 1, 1, []uint32{0x7fffff}, []uint32{0x807fffff}, 0, []uint32{0x17ffffe}},
		{single, single, 1, 2, []uint32{0x800000, 0x800001}, []uint32{0x800001, 0x800000}, 0, []uint32{0x80000001, 1}},
		{half, half, 1, 2, []uint32{1, 0x83ff}, []uint32{0, 0}, 0x30ff8020, []uint32{0x33800000, 0xb87fc000}},
		{brain, brain, 1, 2, []uint32{1, 0x807f}, []uint32{0, 0}, 0, []uint32{0x10000, 0x807f0000}},
		{single, single, 1, 1, []uint32{0x1e000000}, []uint32{0}, 0x8000, []uint32{0x1e800000}},
		{single, single, 1, 2, []uint32{0x1a000000, 0x19ffffff}, []uint32{0, 0}, 0, []uint32{0x1a000000, 0x19ffffff}},
		// great ones: a square, a sum, one number twice may be above all
		{single, single, 1, 1, []uint32{0x7f7fffff}, []uint32{0}, inf, []uint32{inf}},
		{single, single, 1, 1, []uint32{0x7f7fffff}, []uint32{0xff7fffff}, inf, []uint32{inf}},
		{single, single, 1, 1, []uint32{0xff7fffff}, []uint32{0x7f7fffff}, inf, []uint32{0xff800000}},
		{single, single, 1, 4, []uint32{0x7f000000, 0, 0, 0}, []uint32{0, 0, 0, 0}, inf, []uint32{inf, 0, 0, 0}},
		{single, single, 1, 4, []uint32{0xfeffffff, 0, 0, 0}, []uint32{0, 0, 0, 0}, inf, []uint32{0xfe7fffff, 0, 0, 0}},
		{single, single, 1, 1, []uint32{0x5f7fffff}, []uint32{0}, 0x7f7ffffe, []uint32{0x5fffffff}},
		{single, single, 1, 1, []uint32{0x5f800000}, []uint32{0}, inf, []uint32{0x60000000}},
		{single, single, 1, 2, []uint32{0x5f7fffff, 0x5f7fffff}, []uint32{0, 0}, inf, []uint32{0x5f7fffff, 0x5f7fffff}},
		{single, single, 2, 1, []uint32{0x5f000000, 0x5f000000}, []uint32{0, 0}, 0x7e800000, []uint32{0x5f000000, 0x5f000000}},
		{half, half, 1, 2, []uint32{0x7bff, 0xfbff}, []uint32{0xfbff, 0x7bff}, 0x507fc004, []uint32{0x47ffe000, 0xc7ffe000}},
		{brain, brain, 1, 2, []uint32{0x7f7f, 0}, []uint32{0, 0xff7f}, inf, []uint32{inf, inf}},
		// infinities
		{single, single, 1, 1, []uint32{inf}, []uint32{0}, inf, []uint32{inf}},
		{single, single, 1, 1, []uint32{0}, []uint32{inf}, inf, []uint32{0xff800000}},
		{single, single, 1, 1, []uint32{0xff800000}, []uint32{0}, inf, []uint32{0xff800000}},
		{single, single, 1, 1, []uint32{0}, []uint32{0xff800000}, inf, []uint32{inf}},
		{single, single, 1, 1, []uint32{inf}, []uint32{inf}, nan, []uint32{nan}},
		{single, single, 1, 1, []uint32{0xff800000}, []uint32{0xff800000}, nan, []uint32{nan}},
		{single, single, 1, 1, []uint32{inf}, []uint32{0xff800000}, inf, []uint32{inf}},
		{single, single, 1, 1, []uint32{0xff800000}, []uint32{inf}, inf, []uint32{0xff800000}},
		{half, half, 1, 3, []uint32{0x7c00, 0x3c00, 0xfc00}, []uint32{0, 0, 0}, inf, []uint32{inf, 0x3f2aaaab, 0xff800000}},
		{brain, brain, 1, 3, []uint32{0, 0x7f80, 0}, []uint32{0x7f80, 0x7f80, 0x3f80}, nan, []uint32{0xff800000, nan, 0xbf2aaaab}},
		{half, brain, 1, 2, []uint32{0x7c00, 0x7c00}, []uint32{0x7f80, 0xff80}, nan, []uint32{nan, inf}},
		// NaNs, that spoil the loss, and the slope of their own place
		{single, single, 1, 2, []uint32{0x3f800000, nan}, []uint32{0, 0}, nan, []uint32{0x3f800000, nan}},
		{single, single, 1, 2, []uint32{0x3f800000, 0}, []uint32{0, nan}, nan, []uint32{0x3f800000, nan}},
		{single, single, 1, 2, []uint32{0x3f800000, 0xffc00000}, []uint32{0, 0x3f800000}, nan, []uint32{0x3f800000, nan}},
		{single, single, 1, 2, []uint32{0x3f800000, 0x3f800000}, []uint32{0, 0x7f800001}, nan, []uint32{0x3f800000, nan}},
		{single, single, 1, 2, []uint32{0x3f800000, 0xff812345}, []uint32{0, nan}, nan, []uint32{0x3f800000, nan}},
		{single, single, 1, 2, []uint32{0x3f800000, nan}, []uint32{0, inf}, nan, []uint32{0x3f800000, nan}},
		{half, half, 2, 2, []uint32{0x7e00, 0x3c00, 0x3c00, 0x7c01}, []uint32{0, 0, 0xfe00, 0}, nan, []uint32{nan, 0x3f000000, nan, nan}},
		{brain, brain, 1, 3, []uint32{0x3f80, 0xff81, 0x3f80}, []uint32{0, 0, 0}, nan, []uint32{0x3f2aaaab, nan, 0x3f2aaaab}},
		{single, half, 1, 2, []uint32{0x3f800000, 0x3f800000}, []uint32{0xfdff, 0x3c00}, nan, []uint32{nan, 0}},
	} {
		got := allOf(Mse(of(x.rows, x.cols, x.v.f, x.z...), of(x.rows, x.cols, x.w.f, x.t...)))
		hold(t, "P16.2: Mse of "+x.v.name+" and "+x.w.name, got, x.loss, of(x.rows, x.cols, api.Single, x.slopes...))
	}
}

// P16.2: each operation is rounded by itself, in the order that is written: of each of
// these another way to the same real number tells another last bit.
func TestMseJustSo(t *testing.T) {
	for _, x := range []struct {
		other      string
		rows, cols int
		z, t       []uint32
		loss       uint32
		slopes     []uint32
	}{
		{"squares rounded ahead of the sum", 3, 2, []uint32{0x3efaf17e, 0xbf965c2f, 0xbf5a23e0, 0xbe239e90, 0x3e0372aa, 0x3f685804}, []uint32{0xbfa04e1c, 0xbee6b430, 0xbf6c5478, 0x3edcb4f6, 0x3f7fcd1c, 0xbf91e7a4}, 0x3fbd2099, []uint32{0x3f14b1a8, 0xbe77285d, 0x3cc20655, 0xbe49ad7f, 0xbe94a04c, 0x3f2eb7c4}},
		{"squares rounded ahead of the sum", 1, 3, []uint32{0x3f8e21d7, 0xbf866ddd, 0xbec4bbb1}, []uint32{0x3ff1e227, 0x3ee7c7ca, 0x3f94aa65}, 0x3fe03991, []uint32{0xbf05006b, 0xbf803fe0, 0xbf83e636}},
		{"from the last one on", 3, 1, []uint32{0xbe68e954, 0x3f2e9a92, 0xbf7b13e0}, []uint32{0x3f48b096, 0xbf86df35, 0xbfaa145c}, 0x3fb15b1c, []uint32{0xbf2c9c9d, 0x3f941da9, 0x3e6d8ceb}},
		{"from the last one on", 1, 3, []uint32{0xbf1b4b25, 0xbfaf46c5, 0x3eb7d43e}, []uint32{0x3e78f254, 0xbfb3c479, 0xbe52c308}, 0x3eb1e470, []uint32{0xbf110527, 0x3cbf9e00, 0x3ec0ce81}},
		{"column by column", 2, 2, []uint32{0xbfde5aed, 0x3e78af1d, 0xbf61d6e2, 0x3e309b35}, []uint32{0x3e5458a6, 0xbf5c5c8f, 0xbf900184, 0x3f3df9c9}, 0x3fac3e91, []uint32{0xbf78e602, 0x3f0d442b, 0x3df8b098, 0xbe91d2fc}},
		{"column by column", 2, 2, []uint32{0x3ee786e4, 0xbfd6d4cc, 0xbe225465, 0xbe4bea7f}, []uint32{0x3e0c4ef2, 0xbe9c3499, 0x3ed27110, 0xbecd8f68}, 0x3f166f9f, []uint32{0x3e215f6b, 0xbf2fc7a6, 0xbe91cda1, 0x3dcf3451}},
		{"pair by pair", 2, 2, []uint32{0x3e8cb9a2, 0xbe19ef7a, 0xbf025140, 0x3ef9ef1d}, []uint32{0x3e93330c, 0xbefb2600, 0xbeae4c5e, 0x3fdd4a6f}, 0x3ed780d7, []uint32{0xbbcf2d40, 0x3e2e2e43, 0xbdacac44, 0xbf1ecea8}},
		{"pair by pair", 1, 4, []uint32{0x3e84226b, 0x3e5b7de2, 0x3fad5b85, 0xbe1d1a0b}, []uint32{0xbe166598, 0xbf76fcc5, 0x3f4daa23, 0xbfbe856f}, 0x3f68f993, []uint32{0x3e4f5537, 0x3f16ee1f, 0x3e8d0ce7, 0x3f2ae22e}},
		{"rows by themselves", 2, 2, []uint32{0xbe67759d, 0x3f626571, 0x3e045aad, 0xbfc1a9e3}, []uint32{0xbf20ecf9, 0x3f1b13bc, 0x3eaf661f, 0xbfa1b638}, 0x3db1ebf9, []uint32{0x3e4e1f24, 0x3e0ea36a, 0xbdda7191, 0xbdff9d58}},
		{"rows by themselves", 2, 2, []uint32{0xbf32478e, 0x3f009a5d, 0xbe3a632e, 0x3ff6a0d0}, []uint32{0x3e0edeb7, 0xbf299d5c, 0x3e64068a, 0xbfd7585e}, 0x4073ee3a, []uint32{0xbed5ff3c, 0x3f151bdc, 0xbe4f34dc, 0x3fe6fc97}},
		{"each by how many there are", 3, 2, []uint32{0x3f508bcb, 0xbef891b5, 0xbef911ca, 0xbf99dc61, 0x3fd9fec6, 0x3e9eece6}, []uint32{0xbefa1ab5, 0x3ff81bd7, 0xbe154e5c, 0xbf3362eb, 0x3e2b6d24, 0x3e631faa}, 0x3fdbdfe0, []uint32{0x3ede6619, 0xbf4ed583, 0xbde88e25, 0xbe2b1d1f, 0x3f030b6c, 0x3cf1f05b}},
		{"each by how many there are", 2, 3, []uint32{0xbee3d786, 0xbff119a3, 0x3ea5b364, 0x3f332347, 0xbf231cfe, 0x3e14a1e7}, []uint32{0xbecf1bda, 0x3ec8cfb5, 0x3e1e46e5, 0xbfc68253, 0x3fbdb2c6, 0x3e1f8f35}, 0x401d8070, []uint32{0xbc5d272b, 0xbf4233b5, 0x3d66d52f, 0x3f400d4f, 0xbf34d62d, 0xbb691bd5}},
		{"times 1 by how many there are", 1, 3, []uint32{0xbf736c30, 0x3eaf3c36, 0x3e79dd9d}, []uint32{0xbeb7a5bd, 0x3e52fc9d, 0xbff75fef}, 0x3fd9e54b, []uint32{0xbeca21c3, 0x3db9fa69, 0x3fb9bd17}},
		{"times 1 by how many there are", 1, 3, []uint32{0x3f1245f4, 0x3f2bf973, 0xbfa9fbbd}, []uint32{0xbe5e76e0, 0x3f878713, 0x3fcced23}, 0x40477b1d, []uint32{0x3f0697c8, 0xbe841b99, 0xbff9f095}},
		{"d times 2 by how many there are", 3, 2, []uint32{0xbf0cd6b4, 0xbe63b43c, 0xbe32f40e, 0xbf53a437, 0x3ee2873d, 0x3f0f7737}, []uint32{0x3f1975f4, 0x3f75504b, 0x3eeded72, 0xbe6575c9, 0xbf91b8f1, 0x3e94499d}, 0x3f81484a, []uint32{0xbec4331b, 0xbec97e3c, 0xbe5a44fb, 0xbe4db3b1, 0x3f06e72b, 0x3db8dbc1}},
		{"d times 2 by how many there are", 1, 3, []uint32{0x3f5aa6b6, 0xbe411139, 0xbf04baa3}, []uint32{0xbf7a7975, 0xbfa3e3eb, 0xbef89559}, 0x3fc23101, []uint32{0x3f9c600f, 0x3f3a57b0, 0xbcb3ff35}},
		{"by rows, then by columns", 3, 3, []uint32{0x3e34e341, 0x3f9f5741, 0x3fefe255, 0x3ebd5cd0, 0xbe8a913e, 0x3ec5cf7b, 0xbff9b66c, 0x3e273e79, 0xbff4212b}, []uint32{0x3fbae862, 0xbe5ce5f1, 0xbec33648, 0x3ea138b9, 0xbeae6156, 0xbf3edc06, 0x3f6334d2, 0x3fe77d50, 0x3efe8e76}, 0x403ddfea, []uint32{0xbe920aa5, 0x3ea62e38, 0x3f004e2e, 0x3c481d15, 0x3c7eab55, 0x3e80c8c9, 0xbf217942, 0xbebb2f8f, 0xbf08c93c}},
		{"by rows, then by columns", 3, 3, []uint32{0x3f92bb12, 0x3ea63f7c, 0xbe75d777, 0x3e2693b1, 0xbfd284e5, 0xbf44b5b2, 0x3e06cd49, 0x3fb7ac55, 0xbf22c99f}, []uint32{0x3f995bf6, 0x3fb2d98a, 0xbe375ca0, 0xbe6f98db, 0xbfc192d1, 0xbe35c330, 0x3ef7dbe6, 0x3f14a12a, 0x3e703d0c}, 0x3ebb51ee, []uint32{0xbc3c8b1c, 0xbe741130, 0xbc5e268b, 0x3db48594, 0xbcf1011c, 0xbe067622, 0xbda0683b, 0x3e426a39, 0xbe46161e}},
	} {
		got := allOf(Mse(of(x.rows, x.cols, api.Single, x.z...), of(x.rows, x.cols, api.Single, x.t...)))
		hold(t, "P16.2: Mse, not "+x.other, got, x.loss, of(x.rows, x.cols, api.Single, x.slopes...))
	}
}

// P16.2: tensors without a pattern, of all shapes, in each two formats, against the machine's floats and exact sums.
func TestMseOfMany(t *testing.T) {
	for i, s := range manyShapes() {
		for _, v := range layouts() {
			for _, w := range layouts() {
				seed := uint64(i + 1)
				others := kindsOf(w, s.rows, s.cols, seed+50)
				for k, z := range kindsOf(v, s.rows, s.cols, seed) {
					loss, slopes := squared(z, others[k])
					hold(t, "P16.2: Mse of "+v.name+" and "+w.name, allOf(Mse(z, others[k])), loss, slopes)
				}
			}
		}
	}
}

// P16.2: each two edges of each two formats.
func TestMseOfEdges(t *testing.T) {
	for _, v := range layouts() {
		for _, w := range layouts() {
			for _, a := range v.edges() {
				for _, b := range w.edges() {
					x, y := of(1, 1, v.f, a), of(1, 1, w.f, b)
					loss, slopes := squared(x, y)
					hold(t, "P16.2: Mse of two of "+v.name+" and "+w.name, allOf(Mse(x, y)), loss, slopes)
				}
			}
		}
	}
}

// P16.2: tensors without a pattern are as they were reckoned elsewhere, by another program in another language.
func TestMseSameEverywhere(t *testing.T) {
	for _, x := range []struct {
		v, w layout
		want [4]uint64
	}{
		{half, half, [4]uint64{0x56f10b66417fa5f, 0x2263d968f0c0d0ac, 0xc5bc6fc800675f70, 0x5359f8139a04445e}},
		{half, brain, [4]uint64{0x669145430b0ecbc, 0xae4206d3023383f4, 0x3dc923a699895d7e, 0x2b23146b3607f4bb}},
		{half, single, [4]uint64{0x177fd5284f048d9f, 0x53bc65cc42a96ab6, 0xbd91730e743a87a1, 0x3db358c76cf6c5f0}},
		{brain, half, [4]uint64{0xf1473e54f20b2f9f, 0x8d2dff5d25241777, 0x2eddf6ad847a129, 0x3af1d9b5abd79761}},
		{brain, brain, [4]uint64{0xe2daf130ebd340cb, 0x945548583ee1c615, 0x2651fdaff224dfbe, 0x7c317b0a1c04afe0}},
		{brain, single, [4]uint64{0xaf62c18cb2aabc3e, 0xfb1fc4aab97e1981, 0x924d85b31f5d8852, 0x3e6eb1d831742c21}},
		{single, half, [4]uint64{0xad6c9b4f1767d07e, 0x53d5dc70f35a231e, 0x292bb49c3282b5af, 0xa39af7c6b8c4845b}},
		{single, brain, [4]uint64{0x7963a2223ef04ea2, 0x3647e5b00a8504e, 0x645e1b41a1048bf1, 0xb6b21d695eaddebe}},
		{single, single, [4]uint64{0xfb817653c8047cf9, 0x8dfc60da6c327741, 0x73d2df02ca466d5d, 0x3543e3dd6cde04ce}},
	} {
		for kind := range x.want {
			var told [][]uint32
			for i, s := range manyShapes()[:10] {
				a, b := kindsOf(x.v, s.rows, s.cols, uint64(i+51))[kind], kindsOf(x.w, s.rows, s.cols, uint64(i+61))[kind]
				loss, slopes, _ := Mse(a, b)
				told = append(told, []uint32{loss}, slopes.V)
			}
			if digest(told...) != x.want[kind] {
				t.Errorf("P16.2: Mse of %s and %s, kind %d, makes %#x, not %#x", x.v.name, x.w.name, kind, digest(told...), x.want[kind])
			}
		}
	}
}

// P16.2: two that are alike in finite numbers have no loss and no slopes.
func TestMseOfAlikeOnes(t *testing.T) {
	for _, w := range layouts() {
		for _, s := range manyShapes() {
			z := w.far(s.rows, s.cols, 7)
			hold(t, "P16.2: Mse of alike ones", allOf(Mse(z, z)), 0, of(s.rows, s.cols, api.Single, make([]uint32, len(z.V))...))
		}
	}
}

// P16.2: which one is first turns the slopes' signs, and nothing else.
func TestMseEitherWayRound(t *testing.T) {
	for _, s := range manyShapes() {
		a, b := half.near(s.rows, s.cols, 8), brain.far(s.rows, s.cols, 9)
		loss, slopes, _ := Mse(a, b)
		for i := range slopes.V {
			slopes.V[i] ^= minus
		}
		hold(t, "P16.2: Mse the other way round", allOf(Mse(b, a)), loss, slopes)
	}
}

// P16.2: a loss of no rows is nought, of any columns.
func TestMseOfNoRows(t *testing.T) {
	for _, v := range layouts() {
		for _, w := range layouts() {
			for _, cols := range []int{0, 1, 5, 4095, 4096} {
				for _, l := range [][]uint32{nil, {}, make([]uint32, 0, 9)} {
					hold(t, "P16.2: Mse of no rows", allOf(Mse(of(0, cols, v.f, l...), of(0, cols, w.f))), 0, of(0, cols, api.Single))
					hold(t, "P16.2: Mse of no rows", allOf(Mse(of(0, cols, v.f), of(0, cols, w.f, l...))), 0, of(0, cols, api.Single))
				}
			}
		}
	}
}

// P16.2: of rows without columns the loss is nought by nought, as it is written: the
// plain NaN; a nought is said of no rows alone.
func TestMseOfNoColumns(t *testing.T) {
	for _, v := range layouts() {
		for _, w := range layouts() {
			for _, rows := range []int{1, 2, 5, 4095, 4096} {
				hold(t, "P16.2: Mse of no columns", allOf(Mse(of(rows, 0, v.f), of(rows, 0, w.f))), nan, of(rows, 0, api.Single))
			}
		}
	}
}

// P16.2: as many numbers as a tensor has at most, the last one too.
func TestMseAtMost(t *testing.T) {
	const width = api.MaxWidth
	ones := slices.Repeat([]uint32{0x3c00}, width*width)
	z, x := of(width, width, api.Half, ones...), of(width, width, api.Half, slices.Clone(ones)...)
	last := len(x.V) - 1
	x.V[0], x.V[last] = 0xbc00, 0
	want := of(width, width, api.Single, make([]uint32, width*width)...)
	want.V[0], want.V[last] = 0x34800000, 0x34000000 // 4 and 2 by 2^24
	hold(t, "P16.2: Mse at most", allOf(Mse(z, x)), 0x34a00000, want)
}
