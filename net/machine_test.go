package net

import (
	"math"
	"math/big"
	"slices"
	"testing"

	"anneal/act"
	"anneal/api"
	"anneal/chance"
	"anneal/conv"
	"anneal/philox"
)

// layout is what IEEE 754 (and the document, of Brain) says of a format, written out;
// lead is the exponent's field of 1.0.
type layout struct {
	name          string
	f, bits, frac int
	lead          uint32
}

var half = layout{name: "Half", f: api.Half, bits: 16, frac: 10, lead: 15}

var brain = layout{name: "Brain", f: api.Brain, bits: 16, frac: 7, lead: 127}

var single = layout{name: "Single", f: api.Single, bits: 32, frac: 23, lead: 127}

// layouts are the three formats, each at its own number.
func layouts() []layout { return []layout{half, brain, single} }

// kinds are the activations, each at its own number, by their names.
func kinds() []string { return []string{"Linear", "Relu", "Tanh", "Gelu"} }

// mask has ones where a number of the format has bits.
func (w layout) mask() uint32 { return math.MaxUint32 >> (32 - w.bits) }

// of tells a tensor of the format, of numbers that each format has.
func (w layout) of(rows, cols int, l ...float32) api.Tensor {
	t := of(rows, cols, w.f)
	for _, x := range l {
		t.V = append(t.V, conv.Narrow(w.f, math.Float32bits(x)))
	}
	return t
}

// edges are the format's, of either sign: noughts, subnormal numbers, those around
// 1.0, the greatest ones, infinities, NaNs of either kind.
func (w layout) edges() []uint32 {
	normal := uint32(1) << w.frac
	above := w.mask() >> 1 &^ (normal - 1) // the infinity
	var l []uint32
	for _, v := range []uint32{0, 1, 2, normal / 2, normal - 1, normal, (w.lead - 1) * normal, w.lead*normal - 1, w.lead * normal, w.lead*normal + 1, (w.lead + 1) * normal, above - 1, above, above + 1, above + normal/2 - 1, above + normal/2, above + normal/2 + 1, w.mask() >> 1} {
		l = append(l, v, v|1<<(w.bits-1))
	}
	return l
}

// chain is numbers without a pattern, the same in each run.
type chain uint64

// next tells one more of them.
func (c *chain) next() uint32 {
	*c ^= *c << 13
	*c ^= *c >> 7
	*c ^= *c << 17
	return uint32(*c >> 32)
}

// at tells a tensor of finite numbers without a pattern at 8 exponents, of which least is the first one's field.
func (w layout) at(least uint32, rows, cols int, seed uint64) api.Tensor {
	t, c := of(rows, cols, w.f), chain(seed)
	for range rows * cols {
		a := c.next()
		t.V = append(t.V, a&(1<<w.frac-1)|(least+a>>24&7)<<w.frac|a>>31<<(w.bits-1))
	}
	return t
}

// near tells a tensor of numbers around 1.0 in size.
func (w layout) near(rows, cols int, seed uint64) api.Tensor {
	return w.at(w.lead-4, rows, cols, seed)
}

// light tells a tensor of numbers of a size from 2^-6 to below 4.
func (w layout) light(rows, cols int, seed uint64) api.Tensor {
	return w.at(w.lead-6, rows, cols, seed)
}

// tiny tells a tensor of numbers that are subnormal, or not much greater.
func (w layout) tiny(rows, cols int, seed uint64) api.Tensor { return w.at(0, rows, cols, seed) }

// mixed tells a tensor of all kinds of numbers without a pattern: each bit may be there.
func (w layout) mixed(rows, cols int, seed uint64) api.Tensor {
	t, c := of(rows, cols, w.f), chain(seed)
	for range rows * cols {
		t.V = append(t.V, c.next()&w.mask())
	}
	return t
}

// few tells a tensor of some of the format's edges.
func (w layout) few(rows, cols int, seed uint64) api.Tensor {
	t, c, l := of(rows, cols, w.f), chain(seed), w.edges()
	for range rows * cols {
		t.V = append(t.V, l[c.next()%uint32(len(l))])
	}
	return t
}

// maker makes a tensor of a shape, by a seed.
type maker func(rows, cols int, seed uint64) api.Tensor

// config tells one that may be, without Drop and Chance.
func config(w layout, kind int, widths ...int) api.Config {
	return api.Config{Widths: widths, F: w.f, Act: kind, Loss: api.Mse, Rate: 0x3dcccccd, Eps: 1, Total: 9, Batch: 4, Accum: 1, Seed: 0x0123456789abcdef, Log: 3, Max: 9, Back: 1, Grow: 1, Interval: 3}
}

// params tells weights and biases of a net of these widths, as made.
func params(widths []int, made maker, seed uint64) []api.Param {
	var p []api.Param
	for i, out := range widths[1:] {
		p = append(p, api.Param{W: made(out, widths[i], seed+uint64(2*i)), B: made(1, out, seed+uint64(2*i+1))})
	}
	return p
}

// manyWidths are those of nets of one layer, of two, of more, of as many as there may be.
func manyWidths() [][]int {
	return [][]int{{1, 1}, {1, 5}, {5, 1}, {3, 2}, {1, 1, 1}, {2, 2, 1}, {4, 1, 3}, {1, 6, 1}, {3, 3, 3, 3}, {5, 7, 3, 2}, {2, 5, 1, 4, 3, 1}, deep()}
}

// deep are the widths of a net of as many layers as there may be.
func deep() []int {
	var l []int
	for i := range api.MaxLayers + 1 {
		l = append(l, 1+i%3)
	}
	return l
}

// float is the machine's own float of a number's bits.
func float(f int, v uint32) float32 { return math.Float32frombits(conv.Widen(f, v)) }

// bitsOf are a machine's float's bits in format f; a NaN is the plain one.
func bitsOf(f int, x float32) uint32 { return conv.Narrow(f, math.Float32bits(x)) }

// floats are the machine's own floats of a tensor's numbers, row by row.
func floats(t api.Tensor) [][]float32 {
	l := make([][]float32, t.Rows)
	for i, v := range t.V {
		l[i/t.Cols] = append(l[i/t.Cols], float(t.F, v))
	}
	return l
}

// fused is a times b and so together, rounded once: what a float64 of the sum loses
// is seen by its last bit, ahead of rounding it.
func fused(a, b, so float32) float32 {
	product := float64(a) * float64(b) // exact
	rough := product + float64(so)
	if math.IsNaN(rough) || math.IsInf(rough, 0) {
		return float32(rough)
	}
	part := rough - product
	lost := (product - (rough - part)) + (float64(so) - part)
	if lost != 0 && math.Float64bits(rough)&1 == 0 {
		rough = math.Nextafter(rough, math.Copysign(math.Inf(1), lost))
	}
	return float32(rough)
}

// streamOf is first, 64 times micro and the layer together, round 2^32.
func streamOf(first int64, micro, layer int) uint32 {
	so := big.NewInt(int64(micro))
	so.Mul(so, big.NewInt(64)).Add(so, big.NewInt(first)).Add(so, big.NewInt(int64(layer)))
	return uint32(so.Mod(so, big.NewInt(1<<32)).Uint64())
}

// lowered is what the document says of Low.
func lowered(c api.Config, p []api.Param, micro int) []api.Tensor {
	var l []api.Tensor
	for i, q := range p {
		t := of(q.W.Rows, q.W.Cols, c.F)
		for place, v := range q.W.V {
			if c.Chance {
				t.V = append(t.V, chance.Narrow(c.F, v, philox.Word(c.Seed, streamOf(0x40000000, micro, i), uint64(place))))
			} else {
				t.V = append(t.V, conv.Narrow(c.F, v))
			}
		}
		l = append(l, t)
	}
	return l
}

// forwards is what the document says of Forward.
func forwards(c api.Config, p []api.Param, w []api.Tensor, x api.Tensor, micro int) (api.Tensor, Trace) {
	var t Trace
	for i := range w {
		z := of(x.Rows, w[i].Rows, c.F)
		weights, biases := floats(w[i]), floats(p[i].B)[0]
		for _, in := range floats(x) {
			for j, b := range biases {
				so := float32(0)
				for k, v := range in {
					so = fused(v, weights[j][k], so)
				}
				z.V = append(z.V, bitsOf(c.F, so+b))
			}
		}
		t.X, t.Z, t.K = append(t.X, x), append(t.Z, z), append(t.K, api.Tensor{})
		if i < len(w)-1 {
			x, t.K[i] = onwards(c, z, micro, i)
		}
	}
	return t.Z[len(w)-1], t
}

// onwards is what the document says of what a layer's sums make, and of their mask.
func onwards(c api.Config, z api.Tensor, micro, layer int) (next, k api.Tensor) {
	next = of(z.Rows, z.Cols, c.F)
	for _, v := range z.V {
		next.V = append(next.V, conv.Narrow(c.F, act.Value(c.Act, conv.Widen(c.F, v))))
	}
	if micro < 0 || c.Drop == 0 {
		return next, api.Tensor{}
	}
	k = of(z.Rows, z.Cols, api.Single)
	for place := range z.V {
		v := float32(0)
		if philox.Word(c.Seed, streamOf(0x80000000, micro, layer), uint64(place)) >= c.Drop {
			v = float32(1<<32) / float32(1<<32-int64(c.Drop))
		}
		k.V = append(k.V, math.Float32bits(v))
		next.V[place] = bitsOf(c.F, float(c.F, next.V[place])*v)
	}
	return next, k
}

// backwards is what the document says of Back.
func backwards(c api.Config, w []api.Tensor, t Trace, d api.Tensor) []api.Param {
	g := make([]api.Param, len(w))
	for i := len(w) - 1; i >= 0; i-- {
		g[i] = slopes(d, t.X[i])
		if i == 0 {
			break
		}
		weights := floats(w[i])
		e := of(d.Rows, w[i].Cols, c.F)
		for _, row := range floats(d) {
			for k := range e.Cols {
				so := float32(0)
				for j, v := range row {
					so = fused(v, weights[j][k], so)
				}
				e.V = append(e.V, bitsOf(c.F, so))
			}
		}
		for place, v := range e.V {
			if len(t.K[i-1].V) > 0 {
				v = bitsOf(c.F, float(c.F, v)*float(api.Single, t.K[i-1].V[place]))
			}
			slope := act.Slope(c.Act, conv.Widen(c.F, t.Z[i-1].V[place]))
			e.V[place] = bitsOf(c.F, float(c.F, v)*float(api.Single, slope))
		}
		d = e
	}
	return g
}

// slopes is what the document says of the gradients of a layer of input x.
func slopes(d, x api.Tensor) api.Param {
	g := api.Param{W: of(d.Cols, x.Cols, api.Single), B: of(1, d.Cols, api.Single)}
	ds, xs := floats(d), floats(x)
	for j := range d.Cols {
		for k := range x.Cols {
			so := float32(0)
			for r := range ds {
				so = fused(ds[r][j], xs[r][k], so)
			}
			g.W.V = append(g.W.V, bitsOf(api.Single, so))
		}
		so := float32(0)
		for r := range ds {
			so += ds[r][j]
		}
		g.B.V = append(g.B.V, bitsOf(api.Single, so))
	}
	return g
}

// of tells a tensor of numbers' bits.
func of(rows, cols, f int, l ...uint32) api.Tensor {
	return api.Tensor{Rows: rows, Cols: cols, F: f, V: l}
}

// alike tells whether two tensors have the same shape, format and bits; a nil list is one of nothing.
func alike(got, want api.Tensor) bool {
	return got.Rows == want.Rows && got.Cols == want.Cols && got.F == want.F && slices.Equal(got.V, want.V)
}

// holdTensor holds a tensor against the one that is wanted.
func holdTensor(t *testing.T, what string, got, want api.Tensor) {
	t.Helper()
	switch {
	case alike(got, want):
	case len(got.V) == len(want.V) && len(got.V) > 50:
		at := 0
		for at+1 < len(got.V) && got.V[at] == want.V[at] {
			at++
		}
		t.Errorf("%s: %d times %d of format %d: %#x at %d, not %d times %d of format %d: %#x", what, got.Rows, got.Cols, got.F, got.V[at], at, want.Rows, want.Cols, want.F, want.V[at])
	default:
		t.Errorf("%s: %d times %d of format %d: %#x, not %d times %d of format %d: %#x", what, got.Rows, got.Cols, got.F, got.V, want.Rows, want.Cols, want.F, want.V)
	}
}

// holdTensors holds tensors, layer by layer, against those that are wanted.
func holdTensors(t *testing.T, what string, got, want []api.Tensor) {
	t.Helper()
	if len(got) != len(want) {
		t.Errorf("%s: of %d layers, not %d", what, len(got), len(want))
		return
	}
	for i := range want {
		holdTensor(t, what, got[i], want[i])
	}
}

// holdTrace holds a trace against the one that is wanted.
func holdTrace(t *testing.T, what string, got, want Trace) {
	t.Helper()
	holdTensors(t, what+", X", got.X, want.X)
	holdTensors(t, what+", Z", got.Z, want.Z)
	holdTensors(t, what+", K", got.K, want.K)
}

// holdParams holds gradients, layer by layer, against those that are wanted.
func holdParams(t *testing.T, what string, got, want []api.Param) {
	t.Helper()
	if len(got) != len(want) {
		t.Errorf("%s: of %d layers, not %d", what, len(got), len(want))
		return
	}
	for i := range want {
		holdTensor(t, what+", W", got[i].W, want[i].W)
		holdTensor(t, what+", B", got[i].B, want[i].B)
	}
}

// low tells what Low tells, and no error.
func low(t *testing.T, c api.Config, p []api.Param, micro int) []api.Tensor {
	t.Helper()
	w, e := Low(c, p, micro)
	if e != api.OK {
		t.Fatalf("P17.1: Low of %v: error %d", c.Widths, e)
	}
	return w
}

// forward tells what Forward tells, and no error.
func forward(t *testing.T, c api.Config, p []api.Param, w []api.Tensor, x api.Tensor, micro int) (api.Tensor, Trace) {
	t.Helper()
	z, left, e := Forward(c, p, w, x, micro)
	if e != api.OK {
		t.Fatalf("P17.2: Forward of %d rows, %v: error %d", x.Rows, c.Widths, e)
	}
	return z, left
}

// back tells what Back tells, and no error.
func back(t *testing.T, c api.Config, p []api.Param, w []api.Tensor, left Trace, d api.Tensor) []api.Param {
	t.Helper()
	g, e := Back(c, p, w, left, d)
	if e != api.OK {
		t.Fatalf("P17.3: Back of %d rows, %v: error %d", d.Rows, c.Widths, e)
	}
	return g
}

// digest is one word of lists of numbers, in their order.
func digest(lists ...[]uint32) uint64 {
	so := uint64(0xcbf29ce484222325)
	for _, l := range lists {
		for _, v := range l {
			so = (so ^ uint64(v)) * 0x100000001b3
		}
	}
	return so
}
