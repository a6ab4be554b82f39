package net

import (
	"math"
	"slices"
	"testing"

	"anneal/api"
	"anneal/kern"
	"anneal/tensor"
)

// asks are what a net goes forwards with: of each width, format and activation, of no
// rows, one, many, with weights and rows that are light, near, tiny, of all kinds, few.
func asks(ask func(c api.Config, p []api.Param, x api.Tensor)) {
	for i, widths := range manyWidths() {
		for _, w := range layouts() {
			for kind := range kinds() {
				c := config(w, kind, widths...)
				for k, made := range [][2]maker{{single.light, w.near}, {single.near, w.light}, {single.tiny, w.near}, {halfTiny, w.tiny}, {single.mixed, w.mixed}, {single.few, w.few}, {single.near, w.few}} {
					rows := []int{1, 2, 0, 3, 7, 1, 5}[(i+k)%7]
					ask(c, params(widths, made[0], uint64(i+k+1)), made[1](rows, widths[0], uint64(i+k+100)))
				}
			}
		}
	}
}

// P17.2: nets that are written out, of one layer, of two, of three, in each format.
func TestForwardRows(t *testing.T) {
	for _, w := range layouts() {
		one := []api.Param{{W: single.of(3, 2, 1, 2, -1, 0.5, 0, 3), B: single.of(1, 3, 0.5, 1, -2)}}
		for kind := range kinds() {
			c := config(w, kind, 2, 3)
			x := w.of(3, 2, 1, 1, 2, -1, 0, 0)
			want := w.of(3, 3, 3.5, 0.5, 1, 0.5, -1.5, -5, 0.5, 1, -2)
			z, left := forward(t, c, one, low(t, c, one, 0), x, 0)
			holdTensor(t, "P17.2: Forward of one layer, "+w.name, z, want)
			holdTrace(t, "P17.2: Forward of one layer, "+w.name, left, Trace{X: []api.Tensor{x}, Z: []api.Tensor{want}, K: make([]api.Tensor, 1)})
		}
		for _, r := range []struct {
			kind            int
			x, a, in, z, up []float32
		}{
			{api.Linear, []float32{1, 0, -1}, []float32{16, -16, 0, 0, -16, 16}, []float32{16, -16, 0, 0, -16, 16}, []float32{16.5, 0.5, -15.5}, nil},
			{api.Relu, []float32{1, 0, -1}, []float32{16, -16, 0, 0, -16, 16}, []float32{16, 0, 0, 0, 0, 16}, []float32{32.5, 0.5, 16.5}, nil},
			{api.Tanh, []float32{1, 0, -1}, []float32{16, -16, 0, 0, -16, 16}, []float32{1, -1, 0, 0, -1, 1}, []float32{1.5, 0.5, -0.5}, nil},
			{api.Gelu, []float32{1, 0, -1}, []float32{16, -16, 0, 0, -16, 16}, []float32{16, float32(math.Copysign(0, -1)), 0, 0, float32(math.Copysign(0, -1)), 16}, []float32{32.5, 0.5, 16.5}, nil},
		} {
			c := config(w, r.kind, 1, 2, 1)
			two := []api.Param{{W: single.of(2, 1, 16, -16), B: single.of(1, 2, 0, 0)}, {W: single.of(1, 2, 2, 1), B: single.of(1, 1, 0.5)}}
			what := "P17.2: Forward of two layers, " + kinds()[r.kind] + ", " + w.name
			z, left := forward(t, c, two, low(t, c, two, 0), w.of(3, 1, r.x...), 0)
			holdTensor(t, what, z, w.of(3, 1, r.z...))
			holdTrace(t, what, left, Trace{X: []api.Tensor{w.of(3, 1, r.x...), w.of(3, 2, r.in...)}, Z: []api.Tensor{w.of(3, 2, r.a...), w.of(3, 1, r.z...)}, K: make([]api.Tensor, 2)})
		}
		three := []api.Param{{W: single.of(2, 2, 1, 2, -1, 1), B: single.of(1, 2, 0.5, 1)}, {W: single.of(1, 2, 3, -2), B: single.of(1, 1, 1)}, {W: single.of(2, 1, 2, -1), B: single.of(1, 2, 0.25, 0)}}
		x := w.of(2, 2, 1, 1, -1, 0)
		for _, r := range []struct {
			kind            int
			in1, z1, in2, z []float32
		}{
			{api.Linear, []float32{3.5, 1, -0.5, 2}, []float32{9.5, -4.5}, []float32{9.5, -4.5}, []float32{19.25, -9.5, -8.75, 4.5}},
			{api.Relu, []float32{3.5, 1, 0, 2}, []float32{9.5, -3}, []float32{9.5, 0}, []float32{19.25, -9.5, 0.25, 0}},
		} {
			c := config(w, r.kind, 2, 2, 1, 2)
			what := "P17.2: Forward of three layers, " + kinds()[r.kind] + ", " + w.name
			z, left := forward(t, c, three, low(t, c, three, 0), x, 0)
			holdTensor(t, what, z, w.of(2, 2, r.z...))
			holdTrace(t, what, left, Trace{X: []api.Tensor{x, w.of(2, 2, r.in1...), w.of(2, 1, r.in2...)}, Z: []api.Tensor{w.of(2, 2, 3.5, 1, -0.5, 2), w.of(2, 1, r.z1...), w.of(2, 2, r.z...)}, K: make([]api.Tensor, 3)})
		}
	}
}

// P17.2: nets of all kinds are as the document says, number by number; without Drop micro says nothing.
func TestForwardOfMany(t *testing.T) {
	asks(func(c api.Config, p []api.Param, x api.Tensor) {
		w := low(t, c, p, 0)
		wantZ, want := forwards(c, p, w, x, -1)
		for _, micro := range []int{0, 1, -1, 1 << 40} {
			z, left := forward(t, c, p, w, x, micro)
			what := "P17.2: Forward of " + kinds()[c.Act] + ", " + layouts()[c.F].name
			holdTensor(t, what, z, wantZ)
			holdTrace(t, what, left, want)
		}
	})
}

// P17.2: the weights are w, as they are handed in, not what Low would make of p's; the biases are p's.
func TestForwardIsOfItsWeights(t *testing.T) {
	for _, w := range layouts() {
		for kind := range kinds() {
			c := config(w, kind, 3, 4, 2)
			p, x := params(c.Widths, single.near, 3), w.near(5, 3, 4)
			for k, made := range []maker{w.near, w.tiny, w.mixed, w.few} {
				l := []api.Tensor{made(4, 3, uint64(k+20)), made(2, 4, uint64(k+30))}
				z, left := forward(t, c, p, l, x, 0)
				wantZ, want := forwards(c, p, l, x, 0)
				holdTensor(t, "P17.2: Forward of weights of its own", z, wantZ)
				holdTrace(t, "P17.2: Forward of weights of its own", left, want)
			}
		}
	}
}

// P17.2: edges of each format as weights, each with each as a row: infinities, NaNs, noughts, subnormals.
func TestForwardOfEdges(t *testing.T) {
	for _, w := range layouts() {
		edges := w.edges()
		l := []api.Tensor{of(len(edges), 1, w.f, edges...), w.near(2, len(edges), 3)}
		x := of(len(edges), 1, w.f, edges...)
		biases := single.edges()
		p := params([]int{1, len(edges), 2}, single.near, 5)
		for kind := range kinds() {
			c := config(w, kind, 1, len(edges), 2)
			for shift := range 4 {
				p[0].B.V = slices.Concat(biases[9*shift:], biases[:9*shift])
				z, left := forward(t, c, p, l, x, 0)
				wantZ, want := forwards(c, p, l, x, 0)
				holdTensor(t, "P17.2: Forward of edges, "+w.name, z, wantZ)
				holdTrace(t, "P17.2: Forward of edges, "+w.name, left, want)
			}
		}
	}
}

// P17.2: edges that are written out, of one weight, one bias, one number.
func TestForwardEdgesWrittenOut(t *testing.T) {
	for _, r := range []struct {
		w             layout
		weight, b, x  uint32
		linear, after uint32 // the sum, and 1 of it behind Relu
	}{
		{half, 0x3c00, 0, 0x8000, 0x0000, 0x0000},          // from Zero on: a nought has no sign
		{half, 0x3c00, 0x80000000, 0x8000, 0x0000, 0x0000}, // and a bias' sign says nothing
		{half, 0x0001, 0, 0x0001, 0x0000, 0x0000},          // 2^-48
		{half, 0x8001, 0, 0x0001, 0x8000, 0x0000},
		{half, 0x0001, 0x33800000, 0x0000, 0x0001, 0x0001}, // 2^-24, Half's least
		{half, 0x0001, 0x33000000, 0x3c00, 0x0002, 0x0002}, // one and a half of it
		{half, 0x0001, 0x33000000, 0x0000, 0x0000, 0x0000}, // half of it
		{half, 0x7bff, 0x41800000, 0x3c00, 0x7c00, 0x7c00}, // 65504 and 16 are an infinity
		{half, 0x7bff, 0x417fffff, 0x3c00, 0x7c00, 0x7c00}, // 65519.999 as a Single is 65520
		{half, 0x7bff, 0x417f0000, 0x3c00, 0x7bff, 0x7bff},
		{half, 0x7bff, 0xc77fe000, 0x4000, 0x7bff, 0x7bff}, // 131008 less 65504: no sum is cast ahead of its bias
		{half, 0x7c00, 0, 0x0000, 0x7e00, 0x7e00},
		{half, 0x7c00, 0xff800000, 0x3c00, 0x7e00, 0x7e00},
		{half, 0x7c00, 0, 0xbc00, 0xfc00, 0x0000},
		{half, 0x3c00, 0, 0x7c01, 0x7e00, 0x7e00},
		{half, 0xfe01, 0, 0x0000, 0x7e00, 0x7e00},
		{half, 0x3c00, 0x7f800001, 0x3c00, 0x7e00, 0x7e00},
		{brain, 0x0001, 0, 0x3f80, 0x0001, 0x0001}, // 2^-133
		{brain, 0x0001, 0x00008000, 0x3f80, 0x0002, 0x0002},
		{brain, 0x0001, 0x00007fff, 0x3f80, 0x0001, 0x0001},
		{brain, 0x8001, 0x00010000, 0x3f80, 0x0000, 0x0000},
		{brain, 0x7f7f, 0x7b000000, 0x3f80, 0x7f80, 0x7f80}, // half a unit above the greatest
		{brain, 0x7f7f, 0x7affffff, 0x3f80, 0x7f80, 0x7f80}, // a Single has nothing between
		{brain, 0x7f7f, 0x7afff000, 0x3f80, 0x7f7f, 0x7f7f},
		{brain, 0x7f7f, 0xff7f0000, 0x4000, 0x7f80, 0x7f80}, // a Single has no such sum
		{single, 0x00000001, 0x00000001, 0x3f800000, 0x00000002, 0x00000002},
		{single, 0x80000001, 0, 0x3f000000, 0x00000000, 0x00000000}, // half of the least is a nought, and keeps its sign behind no other
		{single, 0x80000001, 0x80000000, 0x3f000000, 0x80000000, 0x00000000},
		{single, 0x7f7fffff, 0x73000000, 0x3f800000, 0x7f800000, 0x7f800000},
		{single, 0x3f800000, 0xbf800000, 0x3f800000, 0x00000000, 0x00000000},
		{single, 0x3f800000, 0, 0x7f800001, 0x7fc00000, 0x7fc00000},
	} {
		c := config(r.w, api.Relu, 1, 1, 1)
		p := []api.Param{{W: single.of(1, 1, 0), B: of(1, 1, api.Single, r.b)}, {W: single.of(1, 1, 0), B: single.of(1, 1, 0)}}
		w := []api.Tensor{of(1, 1, r.w.f, r.weight), r.w.of(1, 1, 1)}
		_, left := forward(t, c, p, w, of(1, 1, r.w.f, r.x), 0)
		holdTensor(t, "P17.2: the sum of an edge, "+r.w.name, left.Z[0], of(1, 1, r.w.f, r.linear))
		holdTensor(t, "P17.2: what goes on from an edge, "+r.w.name, left.X[1], of(1, 1, r.w.f, r.after))
	}
}

// P17.2, the example: of no hidden layer there is one product, with its biases.
func TestForwardOfNoHiddenLayer(t *testing.T) {
	for _, w := range layouts() {
		for kind := range kinds() {
			c := config(w, kind, 7, 5)
			c.Drop = 1 << 30
			p, x := params(c.Widths, single.near, 3), w.near(6, 7, 4)
			l := low(t, c, p, 0)
			product, _ := kern.Rows(x, l[0])
			biased, _ := kern.Bias(product, p[0].B)
			want, _ := tensor.Cast(biased, w.f)
			z, left := forward(t, c, p, l, x, 0)
			holdTensor(t, "P17.2: Forward of no hidden layer", z, want)
			holdTrace(t, "P17.2: Forward of no hidden layer", left, Trace{X: []api.Tensor{x}, Z: []api.Tensor{want}, K: make([]api.Tensor, 1)})
		}
	}
}

// P17.2: each row goes forwards by itself: what is told of it hangs on no other one.
func TestRowsGoByThemselves(t *testing.T) {
	asks(func(c api.Config, p []api.Param, x api.Tensor) {
		w := low(t, c, p, 0)
		z, left := forward(t, c, p, w, x, 0)
		row := func(x api.Tensor, r int) api.Tensor {
			return of(1, x.Cols, x.F, x.V[r*x.Cols:(r+1)*x.Cols]...)
		}
		for r := range x.Rows {
			oneZ, one := forward(t, c, p, w, row(x, r), 0)
			holdTensor(t, "P17.2: Forward of a row by itself", oneZ, row(z, r))
			for i := range p {
				holdTensor(t, "P17.2: a row's input by itself", one.X[i], row(left.X[i], r))
				holdTensor(t, "P17.2: a row's sums by themselves", one.Z[i], row(left.Z[i], r))
			}
		}
	})
}

// P17.2: of no rows there are tensors of no rows, each of its layer's columns.
func TestForwardOfNoRows(t *testing.T) {
	for _, widths := range manyWidths() {
		for _, w := range layouts() {
			c := config(w, api.Gelu, widths...)
			p := params(widths, single.near, 3)
			for _, c.Drop = range []uint32{0, 1 << 30} {
				z, left := forward(t, c, p, low(t, c, p, 0), of(0, widths[0], w.f), 0)
				holdTensor(t, "P17.2: Forward of no rows", z, of(0, widths[len(p)], w.f))
				for i := range p {
					holdTensor(t, "P17.2: no rows' input", left.X[i], of(0, widths[i], w.f))
					holdTensor(t, "P17.2: no rows' sums", left.Z[i], of(0, widths[i+1], w.f))
					k := api.Tensor{}
					if i < len(p)-1 && c.Drop > 0 {
						k = of(0, widths[i+1], api.Single)
					}
					holdTensor(t, "P17.2: no rows' mask", left.K[i], k)
				}
			}
		}
	}
}
