package act

import (
	"math"
	"slices"
	"testing"

	"anneal/api"
	"anneal/conv"
	"anneal/funcs"
)

// layout is what IEEE 754 (and the document, of Brain) says of a format, written out;
// lead is the exponent's field of 1.0.
type layout struct {
	name          string
	f, bits, frac int
	lead          uint32
}

var half = layout{name: "Half", f: api.Half, bits: 16, frac: 10, lead: 15}

var brain = layout{name: "Brain", f: api.Brain, bits: 16, frac: 7, lead: 127}

var single = layout{name: "Single", f: api.Single, bits: 32, frac: 23, lead: 127}

// layouts are the three formats, each at its own number.
func layouts() []layout { return []layout{half, brain, single} }

// What the tests write out of Singles; minus is a sign and nothing else.
const (
	minus = 0x80000000
	inf   = 0x7f800000
	nan   = 0x7fc00000
)

// kinds are the activations, each at its own number, by their names.
func kinds() []string { return []string{"Linear", "Relu", "Tanh", "Gelu"} }

// noKinds are numbers of none: beside the first and the last one, and those whose lower bits are one's.
func noKinds() []int {
	return []int{-1, -2, -3, -4, 4, 5, 6, 7, 8, 255, 256, 1<<8 | 2, 1<<16 | 1, 1 << 32, 1<<32 + 3, 1<<63 - 4, math.MinInt, math.MinInt + 2, math.MaxInt}
}

// mask has ones where a number of the format has bits.
func (w layout) mask() uint32 { return math.MaxUint32 >> (32 - w.bits) }

// ones is 1.0, n times.
func (w layout) ones(n int) []uint32 { return slices.Repeat([]uint32{w.lead << w.frac}, n) }

// edges are the format's, of either sign: noughts, subnormal numbers, those around
// 1.0, the greatest ones, infinities, NaNs of either kind.
func (w layout) edges() []uint32 {
	normal := uint32(1) << w.frac
	above := w.mask() >> 1 &^ (normal - 1) // the infinity
	var l []uint32
	for _, v := range []uint32{0, 1, 2, normal / 2, normal - 1, normal, (w.lead - 1) * normal, w.lead*normal - 1, w.lead * normal, w.lead*normal + 1, (w.lead + 1) * normal, above - 1, above, above + 1, above + normal/2 - 1, above + normal/2, above + normal/2 + 1, w.mask() >> 1} {
		l = append(l, v, v|1<<(w.bits-1))
	}
	return l
}

// chain is numbers without a pattern, the same in each run.
type chain uint64

// next tells one more of them.
func (c *chain) next() uint32 {
	*c ^= *c << 13
	*c ^= *c >> 7
	*c ^= *c << 17
	return uint32(*c >> 32)
}

// near tells a tensor of finite numbers without a pattern at 8 exponents around 1.0,
// where activations turn.
func (w layout) near(rows, cols int, seed uint64) api.Tensor {
	t, c := of(rows, cols, w.f), chain(seed)
	for range rows * cols {
		a := c.next()
		t.V = append(t.V, a&(1<<w.frac-1)|(w.lead-4+a>>24&7)<<w.frac|a>>31<<(w.bits-1))
	}
	return t
}

// mixed tells a tensor of all kinds of numbers without a pattern: each bit may be there.
func (w layout) mixed(rows, cols int, seed uint64) api.Tensor {
	t, c := of(rows, cols, w.f), chain(seed)
	for range rows * cols {
		t.V = append(t.V, c.next()&w.mask())
	}
	return t
}

// numbers are Singles at each exponent's ends and middle, edges, parts of 1, numbers near 1 in size, and all kinds.
func numbers() []uint32 {
	l := single.edges()
	for from := uint32(0); from < inf; from += 1 << 23 {
		for _, at := range []uint32{0, 1, 1<<22 - 1, 1 << 22, 1<<22 + 1, 1<<23 - 1} {
			l = append(l, from+at, minus|from+at)
		}
	}
	for k := range 1024 {
		v := math.Float32bits(float32(k) / 128)
		l = append(l, v, minus|v)
	}
	return slices.Concat(l, single.near(1, 4000, 11).V, single.mixed(1, 4000, 12).V)
}

// float is the machine's own float of a Single's bits.
func float(v uint32) float32 { return math.Float32frombits(v) }

// bitsOf are a machine's float's bits; a NaN is the plain one.
func bitsOf(x float32) uint32 {
	if x != x {
		return nan
	}
	return math.Float32bits(x)
}

// valued is what the document says of the Value of kind.
func valued(kind int, v uint32) uint32 {
	x := float(v)
	switch {
	case kind == api.Linear:
		return v
	case kind == api.Relu && x <= 0:
		return 0
	case kind == api.Relu:
		return bitsOf(x)
	case kind == api.Tanh:
		return funcs.Tanh(v)
	case kind == api.Gelu:
		return funcs.Gelu(v)
	default:
		return nan
	}
}

// sloped is what the document says of the Slope of kind.
func sloped(kind int, v uint32) uint32 {
	switch {
	case kind == api.Linear || kind == api.Relu && float(v) > 0:
		return single.ones(1)[0]
	case kind == api.Relu:
		return 0
	case kind == api.Tanh:
		t := float(funcs.Tanh(v))
		square := float32(t * t)
		return bitsOf(1 - square)
	case kind == api.Gelu:
		return funcs.Slope(v)
	default:
		return nan
	}
}

// forwards is what the document says of Forward.
func forwards(kind int, z api.Tensor) api.Tensor {
	told := of(z.Rows, z.Cols, z.F)
	for _, v := range z.V {
		told.V = append(told.V, conv.Narrow(z.F, valued(kind, conv.Widen(z.F, v))))
	}
	return told
}

// backwards is what the document says of Back.
func backwards(kind int, z, d api.Tensor) api.Tensor {
	told := of(d.Rows, d.Cols, d.F)
	for i, v := range d.V {
		slope := sloped(kind, conv.Widen(z.F, z.V[i]))
		product := bitsOf(float(conv.Widen(d.F, v)) * float(slope))
		told.V = append(told.V, conv.Narrow(d.F, product))
	}
	return told
}

// of tells a tensor of numbers' bits.
func of(rows, cols, f int, l ...uint32) api.Tensor {
	return api.Tensor{Rows: rows, Cols: cols, F: f, V: l}
}

// alike tells whether two tensors have the same shape, format and bits; a nil list is one of nothing.
func alike(got, want api.Tensor) bool {
	return got.Rows == want.Rows && got.Cols == want.Cols && got.F == want.F && slices.Equal(got.V, want.V)
}

// holdTensor holds an answer against the one that is wanted.
func holdTensor(t *testing.T, what string, got api.Tensor, e api.Errno, want api.Tensor, wantErr api.Errno) {
	t.Helper()
	switch {
	case e != wantErr:
		t.Errorf("%s: error %d, not %d", what, e, wantErr)
	case alike(got, want):
	case len(got.V) == len(want.V) && len(got.V) > 50:
		at := 0
		for at+1 < len(got.V) && got.V[at] == want.V[at] {
			at++
		}
		t.Errorf("%s: %d times %d of format %d: %#x at %d, not %d times %d of format %d: %#x", what, got.Rows, got.Cols, got.F, got.V[at], at, want.Rows, want.Cols, want.F, want.V[at])
	default:
		t.Errorf("%s: %d times %d of format %d: %#x, not %d times %d of format %d: %#x", what, got.Rows, got.Cols, got.F, got.V, want.Rows, want.Cols, want.F, want.V)
	}
}

// holdError holds an answer against an error and nothing beside it.
func holdError(t *testing.T, what string, got api.Tensor, e, want api.Errno) {
	t.Helper()
	holdTensor(t, what, got, e, api.Tensor{}, want)
}

// digest is one word of lists of numbers, in their order.
func digest(lists ...[]uint32) uint64 {
	so := uint64(0xcbf29ce484222325)
	for _, l := range lists {
		for _, v := range l {
			so = (so ^ uint64(v)) * 0x100000001b3
		}
	}
	return so
}
