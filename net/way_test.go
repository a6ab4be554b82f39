package net

import (
	"math"
	"slices"
	"testing"

	"anneal/api"
)

// whole tells a tensor of whole Singles of a size of at most 3, without a pattern.
func whole(rows, cols int, seed uint64) api.Tensor {
	t, c := of(rows, cols, api.Single), chain(seed)
	for range rows * cols {
		t.V = append(t.V, math.Float32bits(float32(c.next()>>8%7)-3))
	}
	return t
}

// together is the sum of a's numbers times b's, as reals.
func together(a, b api.Tensor) float64 {
	so := 0.0
	for i, v := range a.V {
		so += float64(float(a.F, v)) * float64(float(b.F, b.V[i]))
	}
	return so
}

// places are all numbers of params: where each stands, and what its gradient is.
func places(p, g []api.Param, at func(number *uint32, gradient float64)) {
	for i := range p {
		for k := range p[i].W.V {
			at(&p[i].W.V[k], float64(float(api.Single, g[i].W.V[k])))
		}
		for k := range p[i].B.V {
			at(&p[i].B.V[k], float64(float(api.Single, g[i].B.V[k])))
		}
	}
}

// P17.4: of a net that bends nothing, whose numbers are whole, a weight or a bias that is
// more by 1 makes just as much more go forwards as comes back to it.
func TestWhatGoesForwardsComesBack(t *testing.T) {
	for _, widths := range [][]int{{3, 2}, {2, 3, 1}, {1, 1, 1, 1}, {3, 2, 4, 2}} {
		c := config(single, api.Linear, widths...)
		p, x := params(widths, whole, 3), whole(4, widths[0], 4)
		z, left := forward(t, c, p, low(t, c, p, 0), x, 0)
		d := whole(4, widths[len(p)], 5)
		g := back(t, c, p, low(t, c, p, 0), left, d)
		before := together(d, z)
		places(p, g, func(number *uint32, gradient float64) {
			was := *number
			*number = math.Float32bits(math.Float32frombits(was) + 1)
			z, _ := forward(t, c, p, low(t, c, p, 0), x, 0)
			if more := together(d, z) - before; more != gradient {
				t.Errorf("P17.4: of %v there is %v more forwards, and %v comes back", widths, more, gradient)
			}
			*number = was
		})
	}
}

// smooth is what kind makes of a real.
func smooth(kind int, x float64) float64 {
	switch kind {
	case api.Relu:
		return max(x, 0)
	case api.Tanh:
		return math.Tanh(x)
	case api.Gelu:
		return x / 2 * (1 + math.Tanh(math.Sqrt(2/math.Pi)*(x+0.044715*x*x*x)))
	default:
		return x
	}
}

// real is what comes out of a net of reals, of which the trace's masks drop what they drop, times d, in all.
func real(c api.Config, p []api.Param, x api.Tensor, masks []api.Tensor, d api.Tensor) float64 {
	so := 0.0
	for r := range x.Rows {
		in := make([]float64, x.Cols)
		for k := range in {
			in[k] = float64(float(x.F, x.V[r*x.Cols+k]))
		}
		for i, q := range p {
			out := make([]float64, q.W.Rows)
			for j := range out {
				out[j] = float64(float(api.Single, q.B.V[j]))
				for k, v := range in {
					out[j] += v * float64(float(api.Single, q.W.V[j*q.W.Cols+k]))
				}
				if i < len(p)-1 {
					out[j] = smooth(c.Act, out[j])
				}
				if len(masks[i].V) > 0 {
					out[j] *= float64(float(api.Single, masks[i].V[r*len(out)+j]))
				}
			}
			in = out
		}
		for j, v := range in {
			so += v * float64(float(d.F, d.V[r*len(in)+j]))
		}
	}
	return so
}

// P17.4: what comes back to a weight or a bias is how much the net of reals makes of a
// little more of it, with Drop and without.
func TestComesBackAsOfReals(t *testing.T) {
	const little = 1.0 / 1024
	for _, widths := range [][]int{{3, 2}, {2, 4, 1}, {3, 4, 3, 2}, {2, 3, 3, 3, 2}} {
		for kind, name := range kinds() {
			for _, drop := range []uint32{0, 1 << 30} {
				c := config(single, kind, widths...)
				c.Drop = drop
				p, x := params(widths, single.light, 3), single.light(5, widths[0], 4)
				w := low(t, c, p, 6)
				_, left := forward(t, c, p, w, x, 6)
				d := single.light(5, widths[len(p)], 5)
				places(p, back(t, c, p, w, left, d), func(number *uint32, gradient float64) {
					was := *number
					at := func(more float32) (float64, float64) {
						v := math.Float32frombits(was) + more
						*number = math.Float32bits(v)
						return real(c, p, x, left.K, d), float64(v)
					}
					up, upper := at(little)
					down, lower := at(-little)
					*number = was
					wanted := (up - down) / (upper - lower)
					tolerance := 1e-3 * (1 + math.Abs(wanted))
					if kind == api.Relu { // of a sum near nought one side is steep, the other isn't
						middle, _ := at(0)
						tolerance += math.Abs(up+down-2*middle) / little
						*number = was
					}
					if math.Abs(gradient-wanted) > tolerance {
						t.Errorf("P17.4: of %s, %v, %v comes back, not %v", name, widths, gradient, wanted)
					}
				})
			}
		}
	}
}

// P17.4: to what was dropped nothing comes back; what was taken times something on its
// way forwards is taken times as much on its way back.
func TestDroppedForwardsAndBack(t *testing.T) {
	for _, f := range layouts() {
		c := config(f, api.Linear, 2, 9, 9, 1)
		c.Drop = 1 << 30
		p := params(c.Widths, single.light, 3)
		w := low(t, c, p, 0)
		seen := 0
		for micro := range 20 {
			_, left := forward(t, c, p, w, f.light(1, 2, 4), micro)
			g := back(t, c, p, w, left, f.of(1, 1, 1))
			for i := range 2 {
				for j, k := range left.K[i].V {
					isDropped := k == 0
					if isNought := g[i].B.V[j]<<1 == 0; isNought != isDropped {
						t.Errorf("P17.4: of %s, to number %d, dropped: %v, there comes back %#x", f.name, j, isDropped, g[i].B.V[j])
					}
					if isDropped {
						seen++
						row := g[i].W.V[j*p[i].W.Cols : (j+1)*p[i].W.Cols]
						if slices.ContainsFunc(row, func(v uint32) bool { return v<<1 != 0 }) {
							t.Errorf("P17.4: of %s, to weights of a number that was dropped there comes back %#x", f.name, row)
						}
					} else if i == 1 {
						by := float(f.f, f.of(1, 1, float(f.f, w[2].V[j])*(float32(4)/3)).V[0])
						if got := float(api.Single, g[1].B.V[j]); got != by {
							t.Errorf("P17.4: of %s, to what was taken times 4 / 3 there comes back %v, not %v", f.name, got, by)
						}
					}
				}
			}
		}
		if seen < 40 || seen > 140 {
			t.Errorf("P17.4: of 360 numbers %d were dropped", seen)
		}
	}
}

// P17.4: what Forward leaves Back takes, of whatever is asked; of finite numbers without
// a bend the gradients are of the params' shape, layer by layer.
func TestBackTakesWhatForwardLeaves(t *testing.T) {
	ways(t, func(c api.Config, p []api.Param, w []api.Tensor, left Trace, d api.Tensor) {
		if g := back(t, c, p, w, left, d); !Shape(c, g) {
			t.Errorf("P17.4: the gradients of %v are of another shape", c.Widths)
		}
	})
}

// P17.4: a step against what comes back makes what goes forwards less.
func TestStepDown(t *testing.T) {
	for _, f := range layouts() {
		for kind, name := range kinds() {
			c := config(f, kind, 3, 8, 8, 2)
			p, x := params(c.Widths, single.light, 3), f.light(6, 3, 4)
			d := f.of(6, 2, 1, 1, 1, 1, 1, 1, 1, 1, 1, 1, 1, 1)
			w := low(t, c, p, 0)
			z, left := forward(t, c, p, w, x, 0)
			so := 0.0
			g := back(t, c, p, w, left, d)
			places(p, g, func(_ *uint32, gradient float64) { so += gradient * gradient })
			before := together(d, z)
			step := before / so / 10
			if before < 0 {
				step = -step
			}
			places(p, g, func(number *uint32, gradient float64) {
				*number = math.Float32bits(float32(float64(math.Float32frombits(*number)) - step*gradient))
			})
			z, _ = forward(t, c, p, low(t, c, p, 0), x, 0)
			if after := together(d, z); !(after < before) {
				t.Errorf("P17.4: of %s, %s, a step down from %v leads to %v", name, f.name, before, after)
			}
		}
	}
}
