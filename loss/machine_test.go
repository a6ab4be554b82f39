package loss

import (
	"math"
	"math/big"
	"slices"
	"testing"

	"anneal/api"
	"anneal/conv"
	"anneal/funcs"
)

// layout is what IEEE 754 (and the document, of Brain) says of a format, written out;
// lead is the exponent's field of 1.0.
type layout struct {
	name          string
	f, bits, frac int
	lead          uint32
}

var half = layout{name: "Half", f: api.Half, bits: 16, frac: 10, lead: 15}

var brain = layout{name: "Brain", f: api.Brain, bits: 16, frac: 7, lead: 127}

var single = layout{name: "Single", f: api.Single, bits: 32, frac: 23, lead: 127}

// layouts are the three formats, each at its own number.
func layouts() []layout { return []layout{half, brain, single} }

// What the tests write out of Singles; minus is a sign and nothing else.
const (
	minus = 0x80000000
	inf   = 0x7f800000
	nan   = 0x7fc00000
)

// mask has ones where a number of the format has bits.
func (w layout) mask() uint32 { return math.MaxUint32 >> (32 - w.bits) }

// edges are the format's, of either sign: noughts, subnormal numbers, those around
// 1.0, the greatest ones, infinities, NaNs of either kind.
func (w layout) edges() []uint32 {
	normal := uint32(1) << w.frac
	above := w.mask() >> 1 &^ (normal - 1) // the infinity
	var l []uint32
	for _, v := range []uint32{0, 1, 2, normal / 2, normal - 1, normal, (w.lead - 1) * normal, w.lead*normal - 1, w.lead * normal, w.lead*normal + 1, (w.lead + 1) * normal, above - 1, above, above + 1, above + normal/2 - 1, above + normal/2, above + normal/2 + 1, w.mask() >> 1} {
		l = append(l, v, v|1<<(w.bits-1))
	}
	return l
}

// chain is numbers without a pattern, the same in each run.
type chain uint64

// next tells one more of them.
func (c *chain) next() uint32 {
	*c ^= *c << 13
	*c ^= *c >> 7
	*c ^= *c << 17
	return uint32(*c >> 32)
}

// at tells a tensor of finite numbers without a pattern at 8 exponents, of which least is the first one's field.
func (w layout) at(least uint32, rows, cols int, seed uint64) api.Tensor {
	t, c := of(rows, cols, w.f), chain(seed)
	for range rows * cols {
		a := c.next()
		t.V = append(t.V, a&(1<<w.frac-1)|(least+a>>24&7)<<w.frac|a>>31<<(w.bits-1))
	}
	return t
}

// near tells a tensor of numbers around 1.0 in size.
func (w layout) near(rows, cols int, seed uint64) api.Tensor {
	return w.at(w.lead-4, rows, cols, seed)
}

// far tells a tensor of numbers of a size from 1 to below 256: of many e to the power
// of what they are apart is subnormal, or nought.
func (w layout) far(rows, cols int, seed uint64) api.Tensor { return w.at(w.lead, rows, cols, seed) }

// mixed tells a tensor of all kinds of numbers without a pattern: each bit may be there.
func (w layout) mixed(rows, cols int, seed uint64) api.Tensor {
	t, c := of(rows, cols, w.f), chain(seed)
	for range rows * cols {
		t.V = append(t.V, c.next()&w.mask())
	}
	return t
}

// few tells a tensor of some of the format's edges, so that many numbers are alike.
func (w layout) few(rows, cols int, seed uint64) api.Tensor {
	t, c, l := of(rows, cols, w.f), chain(seed), w.edges()
	for range rows * cols {
		t.V = append(t.V, l[c.next()%uint32(len(l))])
	}
	return t
}

// kindsOf are tensors of a shape: of numbers that are near, far, of all kinds, few.
func kindsOf(w layout, rows, cols int, seed uint64) []api.Tensor {
	return []api.Tensor{w.near(rows, cols, seed), w.far(rows, cols, seed+100), w.mixed(rows, cols, seed+200), w.few(rows, cols, seed+300)}
}

// labels tells as many labels of cols columns as there are rows.
func labels(rows, cols int, seed uint64) []int {
	var y []int
	c := chain(seed)
	for range rows {
		y = append(y, int(c.next()%uint32(cols)))
	}
	return y
}

// manyShapes are shapes of few and of many numbers.
func manyShapes() []struct{ rows, cols int } {
	return []struct{ rows, cols int }{{1, 1}, {1, 2}, {2, 1}, {1, 9}, {9, 1}, {2, 3}, {3, 2}, {17, 5}, {5, 17}, {64, 10}, {1, 4096}, {4096, 1}}
}

// float is the machine's own float of a Single's bits.
func float(v uint32) float32 { return math.Float32frombits(v) }

// bitsOf are a machine's float's bits; a NaN is the plain one.
func bitsOf(x float32) uint32 {
	if x != x {
		return nan
	}
	return math.Float32bits(x)
}

// floats are the machine's own floats of a tensor's numbers, row by row.
func floats(t api.Tensor) [][]float32 {
	l := make([][]float32, t.Rows)
	for i, v := range t.V {
		l[i/t.Cols] = append(l[i/t.Cols], float(conv.Widen(t.F, v)))
	}
	return l
}

// softmaxed is what the document says of Softmax.
func softmaxed(z api.Tensor, y []int) (uint32, api.Tensor) {
	told := of(z.Rows, z.Cols, api.Single)
	n, all := float32(z.Rows), float32(0)
	for r, x := range floats(z) {
		m := x[0]
		for _, v := range x {
			if v > m || m != m {
				m = v
			}
		}
		s, e := float32(0), make([]float32, len(x))
		for j, v := range x {
			e[j] = float(funcs.Exp(bitsOf(v - m)))
			s += e[j]
		}
		all += float(funcs.Log(bitsOf(s))) - (x[y[r]] - m)
		for j, v := range e {
			is := float32(0)
			if j == y[r] {
				is = 1
			}
			told.V = append(told.V, bitsOf((v/s-is)/n))
		}
	}
	if z.Rows == 0 {
		return 0, told
	}
	return bitsOf(all / n), told
}

// squared is what the document says of Mse.
func squared(z, t api.Tensor) (uint32, api.Tensor) {
	told := of(z.Rows, z.Cols, api.Single)
	n, so := float32(z.Rows*z.Cols), float32(0)
	a, b := floats(z), floats(t)
	for r := range a {
		for c := range a[r] {
			d := a[r][c] - b[r][c]
			so = fused(d, so)
			told.V = append(told.V, bitsOf((d+d)/n))
		}
	}
	if z.Rows == 0 {
		return 0, told
	}
	return bitsOf(so / n), told
}

// fused is d's square and so together, rounded once.
func fused(d, so float32) float32 {
	square := float64(d) * float64(d) // exact
	rough := square + float64(so)
	if math.IsNaN(rough) || math.IsInf(rough, 0) {
		return float32(rough)
	}
	exact := new(big.Float).SetPrec(1000).Add(big.NewFloat(square), big.NewFloat(float64(so)))
	rounded, _ := exact.Float32()
	return rounded
}

// firsts is what the document says of Right.
func firsts(z api.Tensor, y []int) int {
	n := 0
	for r, x := range floats(z) {
		own := x[y[r]]
		isNotAbove := func(v float32) bool { return !(own > v) }
		isBelow := func(v float32) bool { return own < v }
		if !slices.ContainsFunc(x[:y[r]], isNotAbove) && !slices.ContainsFunc(x[y[r]+1:], isBelow) {
			n++
		}
	}
	return n
}

// of tells a tensor of numbers' bits.
func of(rows, cols, f int, l ...uint32) api.Tensor {
	return api.Tensor{Rows: rows, Cols: cols, F: f, V: l}
}

// alike tells whether two tensors have the same shape, format and bits; a nil list is one of nothing.
func alike(got, want api.Tensor) bool {
	return got.Rows == want.Rows && got.Cols == want.Cols && got.F == want.F && slices.Equal(got.V, want.V)
}

// told is what Softmax and Mse tell.
type told struct {
	loss   uint32
	slopes api.Tensor
	e      api.Errno
}

// allOf is all that one of them tells.
func allOf(loss uint32, slopes api.Tensor, e api.Errno) told { return told{loss, slopes, e} }

// hold holds an answer against the one that is wanted.
func hold(t *testing.T, what string, got told, loss uint32, slopes api.Tensor) {
	t.Helper()
	switch {
	case got.e != api.OK:
		t.Errorf("%s: error %d", what, got.e)
	case got.loss != loss:
		t.Errorf("%s: the loss is %#x, not %#x", what, got.loss, loss)
	case alike(got.slopes, slopes):
	case len(got.slopes.V) == len(slopes.V) && len(slopes.V) > 50:
		at := 0
		for at+1 < len(slopes.V) && got.slopes.V[at] == slopes.V[at] {
			at++
		}
		t.Errorf("%s: %d times %d of format %d: %#x at %d, not %d times %d of format %d: %#x", what, got.slopes.Rows, got.slopes.Cols, got.slopes.F, got.slopes.V[at], at, slopes.Rows, slopes.Cols, slopes.F, slopes.V[at])
	default:
		t.Errorf("%s: %d times %d of format %d: %#x, not %d times %d of format %d: %#x", what, got.slopes.Rows, got.slopes.Cols, got.slopes.F, got.slopes.V, slopes.Rows, slopes.Cols, slopes.F, slopes.V)
	}
}

// holdError holds an answer against an error and nothing beside it.
func holdError(t *testing.T, what string, got told, want api.Errno) {
	t.Helper()
	if got.e != want || got.loss != 0 || !alike(got.slopes, api.Tensor{}) {
		t.Errorf("%s: %#x, %d times %d of format %d: %#x, error %d, not error %d alone", what, got.loss, got.slopes.Rows, got.slopes.Cols, got.slopes.F, got.slopes.V, got.e, want)
	}
}

// holdCount holds what Right tells against what is wanted.
func holdCount(t *testing.T, what string, n int, e api.Errno, want int, wantErr api.Errno) {
	t.Helper()
	if n != want || e != wantErr {
		t.Errorf("%s: %d, error %d, not %d, error %d", what, n, e, want, wantErr)
	}
}

// digest is one word of lists of numbers, in their order.
func digest(lists ...[]uint32) uint64 {
	so := uint64(0xcbf29ce484222325)
	for _, l := range lists {
		for _, v := range l {
			so = (so ^ uint64(v)) * 0x100000001b3
		}
	}
	return so
}
