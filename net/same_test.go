package net

import (
	"testing"

	"anneal/api"
)

// P17.1, P17.2, P17.3: nets of numbers without a pattern are as they were reckoned
// elsewhere, by another program in another language: with light weights, without chance
// and Drop, then with both; with weights of all kinds, likewise.
func TestSameEverywhere(t *testing.T) {
	for _, x := range []struct {
		w    layout
		kind int
		want [4]uint64
	}{
		{half, api.Linear, [4]uint64{0xeb80f24e6604cdf6, 0x7291c00dd3513c59, 0xaffeff3a851f18f, 0x19fa533eaa05fda}},
		{half, api.Relu, [4]uint64{0xfc9e77e0d36c3405, 0x615ef9188330a7b5, 0xc25adb55be37b283, 0xf3a20daed32f4348}},
		{half, api.Tanh, [4]uint64{0x6a32b0055ea73cb9, 0xc78a28da80b99aef, 0x8033c23372dbf3d1, 0x35c6a515cb455576}},
		{half, api.Gelu, [4]uint64{0xb2421313b77f6186, 0xc5f3506023b474b5, 0x2338414d85c0eff0, 0xb248ba87a5f178d5}},
		{brain, api.Linear, [4]uint64{0xe6d760ccd2b8e36b, 0x611d2cc5e1e2de78, 0x251be808b13405de, 0xf6284a89ed50a22e}},
		{brain, api.Relu, [4]uint64{0x59b83a5fb8caa83f, 0x31a9ca12eeeb961d, 0xada94aea367a04a8, 0x39008211f532c221}},
		{brain, api.Tanh, [4]uint64{0xfd4bd943c543d14b, 0x2411d121502a82ba, 0xf9e7f8ff86856516, 0xb07ee8848230be3d}},
		{brain, api.Gelu, [4]uint64{0x4e10350ef38d7412, 0x2c4dde0de5dfbcc0, 0xf55b589b6286f9fe, 0xfad8cd02e2e7cc23}},
		{single, api.Linear, [4]uint64{0xd8d39dde873e5fe4, 0xd0f7aafc5326b667, 0x68cc7a5a40c56c88, 0x7fd2265e9912c063}},
		{single, api.Relu, [4]uint64{0x8aa7715c99f5617, 0x24c400e90f022411, 0xa29a5fc4f22778e4, 0x8f677779378a9691}},
		{single, api.Tanh, [4]uint64{0x8021dcd16df8578a, 0xa323eb90543e514c, 0x98add345fc0f16e0, 0xd2a81cbe1e0c53cd}},
		{single, api.Gelu, [4]uint64{0x1d5ef4d1c3193dcc, 0xd2a951f0fb520726, 0xda4d8d9770d45a10, 0x10846daa0f79b538}},
	} {
		for k, want := range x.want {
			made := [2]maker{single.light, x.w.near}
			if k >= 2 {
				made = [2]maker{single.mixed, x.w.mixed}
			}
			micro, drop := 0, uint32(0)
			if k%2 == 1 {
				micro, drop = 1<<25+3, 1<<30
			}
			so := uint64(0xcbf29ce484222325)
			for _, widths := range [][]int{{5, 7}, {5, 7, 3}, {3, 3, 3, 3}, {4, 6, 1, 5, 2}} {
				c := config(x.w, x.kind, widths...)
				c.Chance, c.Drop = k%2 == 1, drop
				so = (so ^ digestOf(t, c, params(widths, made[0], 71), made[1](6, widths[0], 61), made[1](6, widths[len(widths)-1], 62), micro)) * 0x100000001b3
			}
			if so != want {
				t.Errorf("P17.1, P17.2, P17.3: nets of %s, %s make %#x, not %#x", x.w.name, kinds()[x.kind], so, want)
			}
		}
	}
}

// digestOf is one word of all that a net tells of weights, rows and what comes back.
func digestOf(t *testing.T, c api.Config, p []api.Param, x, d api.Tensor, micro int) uint64 {
	t.Helper()
	w := low(t, c, p, micro)
	z, left := forward(t, c, p, w, x, micro)
	var l [][]uint32
	add := func(tensors ...api.Tensor) {
		for _, one := range tensors {
			l = append(l, one.V)
		}
	}
	add(w...)
	add(z)
	add(left.X...)
	add(left.Z...)
	add(left.K...)
	for _, g := range back(t, c, p, w, left, d) {
		add(g.W, g.B)
	}
	return digest(l...)
}
