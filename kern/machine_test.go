package kern

import (
	"math"
	"math/big"
	"slices"
	"testing"

	"anneal/api"
)

// layout is what IEEE 754 (and the document, of Brain) says of a format, written out;
// one is the exponent's field of 1.0.
type layout struct {
	name          string
	f, bits, frac int
	one           uint32
}

var half = layout{name: "Half", f: api.Half, bits: 16, frac: 10, one: 15}

var brain = layout{name: "Brain", f: api.Brain, bits: 16, frac: 7, one: 127}

var single = layout{name: "Single", f: api.Single, bits: 32, frac: 23, one: 127}

// layouts are the three formats.
func layouts() []layout { return []layout{half, brain, single} }

// plainNan is a Single's one.
const plainNan = 0x7fc00000

// mask has ones where a number has bits.
func (w layout) mask() uint32 { return math.MaxUint32 >> (32 - w.bits) }

// real tells a number of the format as a float that holds it exactly, a NaN as a NaN.
func (w layout) real(v uint32) float64 {
	top := w.mask() >> 1 >> w.frac
	exp, frac := v>>w.frac&top, float64(v&(1<<w.frac-1))
	size := math.Ldexp(frac, 1-int(w.one)-w.frac)
	switch {
	case exp == top && frac != 0:
		return math.NaN()
	case exp == top:
		size = math.Inf(1)
	case exp > 0:
		size = math.Ldexp(frac+float64(uint32(1)<<w.frac), int(exp)-int(w.one)-w.frac)
	}
	if v>>(w.bits-1)&1 == 1 {
		return -size
	}
	return size
}

// wide tells a number of the format as a Single's bits.
func (w layout) wide(v uint32) uint32 { return bitsOf(float32(w.real(v))) }

// float is the machine's own float of a Single's bits.
func float(v uint32) float32 { return math.Float32frombits(v) }

// bitsOf are a machine's float's bits; a NaN is the plain one.
func bitsOf(x float32) uint32 {
	if x != x {
		return plainNan
	}
	return math.Float32bits(x)
}

// added is a and b together, by the machine.
func added(a, b uint32) uint32 { return bitsOf(float(a) + float(b)) }

// multiplied is a times b, by the machine.
func multiplied(a, b uint32) uint32 { return bitsOf(float(a) * float(b)) }

// fused is a times b and c together, rounded once, by numbers that have room for all of it.
func fused(a, b, c uint32) uint32 {
	x, y, z := float64(float(a)), float64(float(b)), float64(float(c))
	if s := x + y + z; math.IsNaN(s) || math.IsInf(s, 0) {
		return bitsOf(float32(x*y + z)) // of what isn't finite only what it is counts
	}
	exact := func(v float64) *big.Float { return new(big.Float).SetPrec(1000).SetFloat64(v) }
	p := exact(0).Mul(exact(x), exact(y))
	so, _ := p.Add(p, exact(z)).Float32()
	return bitsOf(so)
}

// dotted is what the document says of two lists of Singles.
func dotted(a, b []uint32) uint32 {
	so := uint32(0)
	for i := range a {
		so = fused(a[i], b[i], so)
	}
	return so
}

// of tells a tensor of numbers' bits.
func of(rows, cols, f int, l ...uint32) api.Tensor {
	return api.Tensor{Rows: rows, Cols: cols, F: f, V: l}
}

// singles are Singles' bits.
func singles(l ...float32) []uint32 {
	var told []uint32
	for _, v := range l {
		told = append(told, math.Float32bits(v))
	}
	return told
}

// small tells a tensor of whole numbers up to 128, which each format has.
func (w layout) small(rows, cols int, l ...int) api.Tensor {
	t := of(rows, cols, w.f)
	for _, v := range l {
		at := slices.IndexFunc(w.wholes(), func(bits uint32) bool { return w.real(bits) == math.Abs(float64(v)) })
		bits := w.wholes()[at]
		if v < 0 {
			bits |= 1 << (w.bits - 1)
		}
		t.V = append(t.V, bits)
	}
	return t
}

// wholes are nought and the numbers of the format from 1 to 255 that have at most seven bits.
func (w layout) wholes() []uint32 {
	l := []uint32{0}
	for exp := range uint32(8) {
		for frac := range uint32(64) {
			l = append(l, (w.one+exp)<<w.frac|frac<<(w.frac-6))
		}
	}
	return l
}

// chain is numbers without a pattern, the same in each run.
type chain uint64

// next tells one more of them.
func (c *chain) next() uint32 {
	*c ^= *c << 13
	*c ^= *c >> 7
	*c ^= *c << 17
	return uint32(*c >> 32)
}

// near tells a tensor of finite numbers without a pattern at 8 exponents around 1.0,
// so that sums lose some of each.
func (w layout) near(rows, cols int, seed uint64) api.Tensor {
	t, c := of(rows, cols, w.f), chain(seed)
	for range rows * cols {
		a := c.next()
		t.V = append(t.V, a&(1<<w.frac-1)|(w.one-4+a>>24&7)<<w.frac|a>>31<<(w.bits-1))
	}
	return t
}

// mixed tells a tensor of all kinds of numbers without a pattern: each bit may be there.
func (w layout) mixed(rows, cols int, seed uint64) api.Tensor {
	t, c := of(rows, cols, w.f), chain(seed)
	for range rows * cols {
		t.V = append(t.V, c.next()&w.mask())
	}
	return t
}

// widened are a tensor's numbers as Singles.
func widened(t api.Tensor) []uint32 {
	var l []uint32
	for _, v := range t.V {
		l = append(l, layouts()[t.F].wide(v))
	}
	return l
}

// turned is a tensor with its rows as columns.
func turned(t api.Tensor) api.Tensor {
	told := of(t.Cols, t.Rows, t.F)
	for c := range t.Cols {
		for r := range t.Rows {
			told.V = append(told.V, t.V[r*t.Cols+c])
		}
	}
	return told
}

// alike tells whether got is want to the last field; a list of nothing is one that isn't there.
func alike(got, want api.Tensor) bool {
	return got.Rows == want.Rows && got.Cols == want.Cols && got.F == want.F && slices.Equal(got.V, want.V)
}

// holdTensor holds a call's tensor and its error against those that are wanted.
func holdTensor(t *testing.T, what string, got api.Tensor, e api.Errno, want api.Tensor, wantErr api.Errno) {
	t.Helper()
	switch {
	case e != wantErr:
		t.Errorf("%s: error %d, not %d", what, e, wantErr)
	case alike(got, want):
	case len(got.V) > 50:
		t.Errorf("%s: %d times %d of format %d, %d numbers, are not as wanted", what, got.Rows, got.Cols, got.F, len(got.V))
	default:
		t.Errorf("%s: %d times %d of format %d: %#x, not %d times %d of format %d: %#x", what, got.Rows, got.Cols, got.F, got.V, want.Rows, want.Cols, want.F, want.V)
	}
}

// holdShape holds that a call told ErrShape and nothing.
func holdShape(t *testing.T, what string, got api.Tensor, e api.Errno) {
	t.Helper()
	holdTensor(t, what, got, e, api.Tensor{}, api.ErrShape)
}

// form is a call of two tensors.
type form struct {
	name string
	call func(a, b api.Tensor) (api.Tensor, api.Errno)
}

// products are the calls that multiply tensors.
func products() []form { return []form{{"Plain", Plain}, {"Rows", Rows}, {"Cols", Cols}} }

// pairs are the calls of two tensors that put numbers beside each other.
func pairs() []form { return []form{{"Bias", Bias}, {"Add", Add}, {"Mul", Mul}} }

// fits tells tensors of m by k and k by n as each of the products takes them.
func (p form) fits(a, b api.Tensor) (api.Tensor, api.Tensor) {
	switch p.name {
	case "Rows":
		return a, turned(b)
	case "Cols":
		return turned(a), b
	default:
		return a, b
	}
}

// edges are Singles at which something happens, with either sign.
func edges() []uint32 {
	var l []uint32
	for _, v := range []uint32{0, 1, 0x007fffff, 0x00800000, 0x3f000000, 0x3f800000, 0x3f800001, 0x7f7fffff, 0x7f800000} {
		l = append(l, v, v|0x80000000)
	}
	return append(l, plainNan, 0xffc12345, 0x7f800001, 0xff923456)
}
