package net

import (
	"math"
	"slices"
	"testing"

	"anneal/act"
	"anneal/api"
	"anneal/kern"
	"anneal/tensor"
)

// ways are what a net goes back with: those that asks goes forwards with, with Drop and
// without, and gradients of numbers that are near, light, tiny, of all kinds, few.
func ways(t *testing.T, ask func(c api.Config, p []api.Param, w []api.Tensor, left Trace, d api.Tensor)) {
	n := 0
	asks(func(c api.Config, p []api.Param, x api.Tensor) {
		n++
		c.Drop = []uint32{0, 1 << 30, 0, 0x147ae147}[n%4]
		w := low(t, c, p, n)
		_, left := forward(t, c, p, w, x, n)
		f, out := layouts()[c.F], c.Widths[len(p)]
		for k, made := range []maker{f.near, f.light, f.tiny, f.mixed, f.few} {
			if k == n%5 || k == 0 {
				ask(c, p, w, left, made(x.Rows, out, uint64(n+k)))
			}
		}
	})
}

// P17.3: nets that are written out, of one layer, of two, of three, in each format.
func TestBackRows(t *testing.T) {
	for _, w := range layouts() {
		for kind := range kinds() {
			c := config(w, kind, 2, 3)
			p := []api.Param{{W: single.of(3, 2, 1, 2, -1, 0.5, 0, 3), B: single.of(1, 3, 0.5, 1, -2)}}
			l := low(t, c, p, 0)
			_, left := forward(t, c, p, l, w.of(3, 2, 1, 1, 2, -1, 0, 0), 0)
			got := back(t, c, p, l, left, w.of(3, 3, 1, 0, 2, -1, 4, 0.5, 3, 5, 7))
			holdParams(t, "P17.3: Back of one layer, "+w.name, got, []api.Param{{W: single.of(3, 2, -1, 2, 8, -4, 3, 1.5), B: single.of(1, 3, 3, 9, 9.5)}})
		}
		// of a hidden layer of 0 and 1: of Tanh slopes of 1 and 0 (of 16), of Gelu of 0.5 and 1
		p := []api.Param{{W: single.of(2, 1, 0, 16), B: single.of(1, 2, 0, 0)}, {W: single.of(1, 2, 4, -8), B: single.of(1, 1, 0.5)}}
		for kind, want := range [][]float32{{4, -8, 4, -8}, {0, -8, 0, -8}, {4, 0, 4, 0}, {2, -8, 2, -8}} {
			c := config(w, kind, 1, 2, 1)
			l := low(t, c, p, 0)
			_, left := forward(t, c, p, l, w.of(2, 1, 1, 1), 0)
			got := back(t, c, p, l, left, w.of(2, 1, 1, 0))
			hidden := []float32{0, 16}
			if kind == api.Tanh {
				hidden[1] = 1
			}
			holdParams(t, "P17.3: Back of two layers, "+kinds()[kind]+", "+w.name, got, []api.Param{{W: single.of(2, 1, want[:2]...), B: single.of(1, 2, want[2:]...)}, {W: single.of(1, 2, hidden...), B: single.of(1, 1, 1)}})
		}
		three := []api.Param{{W: single.of(2, 2, 1, 2, -1, 1), B: single.of(1, 2, 0.5, 1)}, {W: single.of(1, 2, 3, -2), B: single.of(1, 1, 1)}, {W: single.of(2, 1, 2, -1), B: single.of(1, 2, 0.25, 0)}}
		// the sums: 3.5, 1; 9.5 of the first row, -0.5, 2; -4.5 or -3 of the second one
		d := w.of(2, 2, 1, 0.5, 2, -1)
		for kind, want := range [][]api.Param{
			{{W: single.of(2, 2, 4.5-15, 4.5, -3+10, -3), B: single.of(1, 2, 4.5+15, -3-10)}, {W: single.of(1, 2, 5.25-2.5, 1.5+10), B: single.of(1, 1, 6.5)}, {W: single.of(2, 1, 9.5-9, 4.75+4.5), B: single.of(1, 2, 3, -0.5)}},
			{{W: single.of(2, 2, 4.5, 4.5, -3, -3), B: single.of(1, 2, 4.5, -3)}, {W: single.of(1, 2, 5.25, 1.5), B: single.of(1, 1, 1.5)}, {W: single.of(2, 1, 9.5, 4.75), B: single.of(1, 2, 3, -0.5)}},
		} {
			c := config(w, kind, 2, 2, 1, 2)
			l := low(t, c, three, 0)
			_, left := forward(t, c, three, l, w.of(2, 2, 1, 1, -1, 0), 0)
			holdParams(t, "P17.3: Back of three layers, "+kinds()[kind]+", "+w.name, back(t, c, three, l, left, d), want)
		}
	}
}

// P17.3: nets of all kinds, with masks and without, are as the document says, number by number.
func TestBackOfMany(t *testing.T) {
	ways(t, func(c api.Config, p []api.Param, w []api.Tensor, left Trace, d api.Tensor) {
		what := "P17.3: Back of " + kinds()[c.Act] + ", " + layouts()[c.F].name
		holdParams(t, what, back(t, c, p, w, left, d), backwards(c, w, left, d))
	})
}

// P17.3: the trace's numbers are taken as they are, whatever made them, and so are the weights.
func TestBackIsOfItsTrace(t *testing.T) {
	for _, f := range layouts() {
		for k, made := range []maker{f.near, f.tiny, f.mixed, f.few} {
			for kind := range kinds() {
				c := config(f, kind, 3, 4, 2, 5)
				var left Trace
				var w []api.Tensor
				for i := range 3 {
					seed := uint64(10*k + i)
					left.X = append(left.X, made(6, c.Widths[i], seed+1))
					left.Z = append(left.Z, made(6, c.Widths[i+1], seed+2))
					left.K = append(left.K, []maker{single.near, single.tiny, single.mixed, single.few}[k](6, c.Widths[i+1], seed+3))
					w = append(w, made(c.Widths[i+1], c.Widths[i], seed+4))
				}
				p, d := params(c.Widths, single.near, 5), made(6, 5, 6)
				holdParams(t, "P17.3: Back of a trace of its own", back(t, c, p, w, left, d), backwards(c, w, left, d))
			}
		}
	}
}

// P17.3: of each layer's mask by itself: of nothing, of something; the last one is no
// part of what is reckoned, and c's Drop says nothing.
func TestBackMaskByMask(t *testing.T) {
	for _, f := range layouts() {
		c := config(f, api.Gelu, 3, 4, 2, 5, 1)
		p := params(c.Widths, single.light, 3)
		w := low(t, c, p, 0)
		_, left := forward(t, c, p, w, f.near(6, 3, 4), 0)
		d := f.near(6, 1, 5)
		var told [][]api.Param
		for masks := range 16 {
			t2 := Trace{X: left.X, Z: left.Z, K: make([]api.Tensor, 4)}
			for i := range t2.K {
				if masks>>i&1 == 1 {
					t2.K[i] = single.near(6, c.Widths[i+1], uint64(i+6))
				}
			}
			want := backwards(c, w, t2, d)
			for _, c.Drop = range []uint32{0, 1, 1 << 30} {
				holdParams(t, "P17.3: Back, mask by mask", back(t, c, p, w, t2, d), want)
			}
			told = append(told, want)
		}
		for masks, g := range told[:8] {
			holdParams(t, "P17.3: the last layer's mask", told[masks+8], g)
			for other := range masks {
				if alike(g[0].W, told[other][0].W) {
					t.Errorf("P17.3: Back of masks %d and %d is the same", masks, other)
				}
			}
		}
	}
}

// P17.3: each step by itself, of two layers: what comes back is d by the weights, cast,
// times the mask, cast, times the slope.
func TestBackStepByStep(t *testing.T) {
	for _, f := range layouts() {
		for kind := range kinds() {
			for seed := range uint64(8) {
				c := config(f, kind, 3, 4, 2)
				c.Drop = 1 << 30 * uint32(seed%2)
				p := params(c.Widths, single.light, seed+3)
				w := low(t, c, p, 0)
				_, left := forward(t, c, p, w, f.near(6, 3, seed+4), 0)
				d := f.near(6, 2, seed+5)
				got := back(t, c, p, w, left, d)
				product, _ := kern.Plain(d, w[1])
				e, _ := tensor.Cast(product, f.f)
				if c.Drop > 0 {
					product, _ = kern.Mul(e, left.K[0])
					e, _ = tensor.Cast(product, f.f)
				}
				ahead, _ := act.Back(kind, left.Z[0], e)
				holdParams(t, "P17.3: Back step by step", got, []api.Param{slopes(ahead, left.X[0]), slopes(d, left.X[1])})
			}
		}
	}
}

// P17.3: gradients are Singles: neither sums nor products are cast to c's format.
func TestGradientsAreSingles(t *testing.T) {
	const most = 65504
	c := config(half, api.Linear, 1, 1)
	p := []api.Param{{W: single.of(1, 1, 1), B: single.of(1, 1, 0)}}
	w := low(t, c, p, 0)
	_, left := forward(t, c, p, w, half.of(3, 1, most, 1, 0.5), 0)
	got := back(t, c, p, w, left, half.of(3, 1, most, most, 0.000244140625))
	holdParams(t, "P17.3: gradients above Half's", got, []api.Param{{W: single.of(1, 1, most*most+most+0.0001220703125), B: single.of(1, 1, 2*most)}})
	_, left = forward(t, c, p, w, of(2, 1, api.Half, 0x0001, 0x0001), 0)
	got = back(t, c, p, w, left, of(2, 1, api.Half, 0x0001, 0x8002))
	holdParams(t, "P17.3: gradients below Half's", got, []api.Param{{W: of(1, 1, api.Single, 0xa7800000), B: of(1, 1, api.Single, 0xb3800000)}})
}

// P17.3: edges of each format, as what comes back, each with each as a weight and a sum.
func TestBackOfEdges(t *testing.T) {
	for _, f := range layouts() {
		edges := f.edges()
		n := len(edges)
		for kind := range kinds() {
			c := config(f, kind, 1, n, 1)
			p := params(c.Widths, single.near, 3)
			w := []api.Tensor{f.near(n, 1, 4), of(1, n, f.f, edges...)}
			for shift := range 4 {
				z := slices.Concat(edges[9*shift:], edges[:9*shift])
				left := Trace{X: []api.Tensor{f.few(n, 1, 5), f.few(n, n, 6)}, Z: []api.Tensor{of(n, n, f.f, slices.Repeat(z, n)...), f.near(n, 1, 7)}, K: make([]api.Tensor, 2)}
				if shift%2 == 1 {
					left.K[0] = single.few(n, n, 8)
				}
				d := of(n, 1, f.f, edges...)
				holdParams(t, "P17.3: Back of edges, "+kinds()[kind]+", "+f.name, back(t, c, p, w, left, d), backwards(c, w, left, d))
			}
		}
	}
}

// P17.3: edges that are written out: of two layers of one number, a weight, a mask, a sum
// and what comes back, and the bias' gradient ahead.
func TestBackEdgesWrittenOut(t *testing.T) {
	const none = math.MaxUint32 // no mask
	const sign = 0x80000000
	for _, r := range []struct {
		f              layout
		kind           int
		weight, k      uint32
		z, d, gradient uint32
	}{
		{half, api.Linear, 0x3c00, none, 0, 0x8000, 0},                // from Zero on: a nought has no sign
		{half, api.Relu, 0x3c00, none, 0x8000, 0xbc00, 0},             // -0 of a slope of nought; the sum begins with Zero
		{half, api.Linear, 0x7bff, none, 0, 0x4000, 0x7f800000},       // 131008 is above Half's greatest
		{half, api.Linear, 0x7bff, 0x3f000000, 0, 0x4000, 0x7f800000}, // and halved it stays an infinity
		{half, api.Linear, 0x7bff, 0, 0, 0x4000, 0x7fc00000},          // and dropped it is no number
		{half, api.Relu, 0x7bff, none, 0, 0x4000, 0x7fc00000},         // nor by a slope of nought
		{half, api.Linear, 0x0001, none, 0, 0x3800, 0},                // half of the least is nought
		{half, api.Linear, 0x0001, 0x40000000, 0, 0x3800, 0},          // and stays it, times 2
		{half, api.Linear, 0x0003, 0x3f000000, 0, 0x3c00, 0x34000000}, // 1.5 of the least are 2
		{half, api.Linear, 0x0001, 0x3f000001, 0, 0x3c00, 0x33800000}, // a mask is a Single
		{half, api.Linear, 0x3c00, none, 0, 0x7c00, 0x7f800000},
		{half, api.Linear, 0x0000, none, 0, 0x7c00, 0x7fc00000},
		{half, api.Linear, 0x3c00, none, 0, 0xfc01, 0x7fc00000},
		{half, api.Linear, 0x3c00, 0x7f800001, 0, 0x3c00, 0x7fc00000},
		{half, api.Linear, 0x3c00, 0xff800000, 0, 0x3c00, 0xff800000},
		{half, api.Relu, 0x3c00, none, 0x7e00, 0x3c00, 0}, // of no number Relu has no slope
		{half, api.Tanh, 0x3c00, none, 0x7e00, 0x3c00, 0x7fc00000},
		{half, api.Tanh, 0x3c00, none, 0x7c00, 0x3c00, 0},
		{half, api.Gelu, 0x3c00, none, 0x0000, 0x3c00, 0x3f000000},
		{half, api.Gelu, 0x3c00, none, 0x7c00, 0x3c00, 0x7fc00000},
		{brain, api.Linear, 0x7f7f, none, 0, 0x4000, 0x7f800000},
		{brain, api.Linear, 0x0001, none, 0, 0x3f00, 0},
		{brain, api.Linear, 0x8001, none, 0, 0x3f80, sign | 0x00010000},
		{brain, api.Linear, 0x0003, 0x3f000000, 0, 0x3f80, 0x00020000},
		{single, api.Linear, 0x00000001, none, 0, 0x3f800000, 0x00000001},
		{single, api.Linear, 0x00000001, 0x3f000000, 0, 0x3f800000, 0},
		{single, api.Linear, 0x7f7fffff, 0x3f000000, 0, 0x40000000, 0x7f800000},
		{single, api.Relu, 0xff7fffff, 0x3f000000, 0x00000001, 0x3f800000, 0xfeffffff},
		{single, api.Relu, 0x3f800000, none, sign | 1, 0x3f800000, 0},
	} {
		c := config(r.f, r.kind, 1, 1, 1)
		p := params(c.Widths, single.near, 3)
		w := []api.Tensor{r.f.of(1, 1, 1), of(1, 1, r.f.f, r.weight)}
		left := Trace{X: []api.Tensor{r.f.of(1, 1, 1), r.f.of(1, 1, 1)}, Z: []api.Tensor{of(1, 1, r.f.f, r.z), r.f.of(1, 1, 1)}, K: make([]api.Tensor, 2)}
		if r.k != none {
			left.K[0] = of(1, 1, api.Single, r.k)
		}
		got := back(t, c, p, w, left, of(1, 1, r.f.f, r.d))
		holdTensor(t, "P17.3: Back of an edge, "+kinds()[r.kind]+", "+r.f.name, got[0].B, of(1, 1, api.Single, r.gradient))
	}
}

// P17.3: of no rows each gradient is Zero, of the weights' shape.
func TestBackOfNoRows(t *testing.T) {
	for _, widths := range manyWidths() {
		for _, f := range layouts() {
			c := config(f, api.Tanh, widths...)
			p := params(widths, single.near, 3)
			for _, c.Drop = range []uint32{0, 1 << 30} {
				w := low(t, c, p, 0)
				_, left := forward(t, c, p, w, of(0, widths[0], f.f), 0)
				got := back(t, c, p, w, left, of(0, widths[len(p)], f.f))
				if len(got) != len(p) || !Shape(c, got) {
					t.Errorf("P17.3: Back of no rows, %v, has another shape", widths)
				}
				for _, g := range got {
					if slices.Max(g.W.V) != 0 || slices.Max(g.B.V) != 0 {
						t.Errorf("P17.3: Back of no rows, %v: %#x", widths, g)
					}
				}
			}
		}
	}
}
