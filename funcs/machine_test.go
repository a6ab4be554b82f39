package funcs

import (
	"math"
	"testing"
)

// What the tests write out of Singles.
const (
	inf   = 0x7f800000
	nan   = 0x7fc00000
	least = 0x00000001
	norm  = 0x00800000 // the least normal one
	most  = 0x7f7fffff // the greatest finite one
)

// machine runs the programs by the machine's own floats, in the words of the
// document. The constant from is taken as to, to see that its last bit is told.
type machine struct{ from, to uint32 }

// face is a function of the package, its promise, and the same by the machine.
type face struct {
	name, promise string
	ask           func(uint32) uint32
	told          func(machine, float32) float32
}

func faces() []face {
	return []face{
		{"Exp", "P12.1", Exp, machine.exp},
		{"Log", "P12.2", Log, machine.log},
		{"Tanh", "P12.3", Tanh, machine.tanh},
		{"Sigmoid", "P12.3", Sigmoid, machine.sigmoid},
		{"Gelu", "P12.3", Gelu, machine.gelu},
		{"Slope", "P12.3", Slope, machine.slope},
		{"Cospi", "P12.3", Cospi, machine.cospi},
	}
}

// faceOf is the one of that name.
func faceOf(name string) face {
	for _, f := range faces() {
		if f.name == name {
			return f
		}
	}
	panic("no face " + name)
}

// hold asks for x and holds the answer against the one that is wanted.
func (f face) hold(t *testing.T, x, want uint32) {
	t.Helper()
	if got := f.ask(x); got != want {
		t.Fatalf("%s: %s of %#08x is %#08x, not %#08x", f.promise, f.name, x, got, want)
	}
}

// by is what a machine tells of x, as bits, of whatever isn't a number as the plain NaN.
func (f face) by(m machine, x uint32) uint32 {
	v := f.told(m, math.Float32frombits(x))
	if v != v {
		return nan
	}
	return math.Float32bits(v)
}

// at is a constant that the document writes.
func (m machine) at(bits uint32) float32 {
	if bits == m.from {
		bits = m.to
	}
	return math.Float32frombits(bits)
}

// fused is a times b and c, rounded once: in 53 bits what is left over makes the
// last one odd, so that cutting them to a Single's 24 can't take it for a middle.
func fused(a, b, c float32) float32 {
	p, z := float64(a)*float64(b), float64(c)
	s := p + z
	if s == 0 || math.IsInf(s, 0) || math.IsNaN(s) {
		return float32(s)
	}
	part := s - p
	left := (p - (s - part)) + (z - part)
	bits := math.Float64bits(s)
	switch {
	case left == 0 || bits%2 == 1:
	case (left > 0) == (s > 0):
		bits++
	default:
		bits--
	}
	return float32(math.Float64frombits(bits))
}

// times is a times b, and never part of one operation with what is behind it.
func times(a, b float32) float32 { return float32(a * b) }

// row is first, then fused with x and one constant behind another.
func (m machine) row(x float32, first uint32, rest ...uint32) float32 {
	p := m.at(first)
	for _, c := range rest {
		p = fused(p, x, m.at(c))
	}
	return p
}

func (m machine) exp(x float32) float32 {
	switch {
	case x != x:
		return x
	case x > m.at(0x42b17218):
		return float32(math.Inf(1))
	case x < m.at(0xc2cff1b5):
		return 0
	}
	n := math.RoundToEven(float64(times(x, m.at(0x3fb8aa3b))))
	k := -float32(n)
	r := fused(k, m.at(0x35bfbe8e), fused(k, m.at(0x3f317200), x))
	p := m.row(r, 0x3ab60b61, 0x3c088889, 0x3d2aaaab, 0x3e2aaaab, 0x3f000000, 0x3f800000, 0x3f800000)
	return float32(math.Ldexp(float64(p), int(n)))
}

func (m machine) log(x float32) float32 {
	switch {
	case x == 0:
		return float32(math.Inf(-1))
	case x < 0:
		return float32(math.NaN())
	case x != x || x > math.MaxFloat32:
		return x
	}
	half, e := math.Frexp(float64(x))
	one, e := float32(half*2), e-1
	if one > m.at(0x3fb504f3) {
		one, e = one/2, e+1
	}
	t := one - 1
	s := t / (2 + t)
	z := times(s, s)
	q := m.row(z, 0x3e638e39, 0x3e924925, 0x3ecccccd, 0x3f2aaaab)
	y := fused(s, times(q, z), s+s)
	k := float32(e)
	return fused(k, m.at(0x3f317200), fused(k, m.at(0x35bfbe8e), y))
}

func (m machine) tanh(x float32) float32 {
	a := float32(math.Abs(float64(x)))
	switch {
	case x == 0 || x != x:
		return x
	case a > m.at(0x41102cb4):
		return float32(math.Copysign(1, float64(x)))
	}
	return float32(math.Copysign(float64(1-2/(m.exp(a+a)+1)), float64(x)))
}

func (m machine) sigmoid(x float32) float32 { return 1 / (1 + m.exp(-x)) }

// inner is u of Gelu and of Slope.
func (m machine) inner(x float32) float32 {
	return times(m.at(0x3f4c422a), fused(m.at(0x3d372713), times(times(x, x), x), x))
}

func (m machine) gelu(x float32) float32 {
	return times(times(m.at(0x3f000000), x), 1+m.tanh(m.inner(x)))
}

func (m machine) slope(x float32) float32 {
	t := m.tanh(m.inner(x))
	d := times(m.at(0x3f4c422a), fused(m.at(0x3e095d4f), times(x, x), m.at(0x3f800000)))
	return fused(times(times(m.at(0x3f000000), x), 1-times(t, t)), d, times(m.at(0x3f000000), 1+t))
}

func (m machine) cospi(x float32) float32 {
	y := times(m.at(0x40490fdb), x-m.at(0x3f000000))
	q := m.row(times(y, y), 0xb9500d01, 0x3c088889, 0xbe2aaaab, 0x3f800000)
	return -times(y, q)
}

// chain is numbers without a pattern, the same in each run.
type chain uint64

// next tells one more of them.
func (c *chain) next() uint32 {
	*c ^= *c << 13
	*c ^= *c >> 7
	*c ^= *c << 17
	return uint32(*c >> 32)
}

// edges are Singles of either sign at each exponent: the ends and the middle of its fractions, and those beside.
func edges() []uint32 {
	const step = 1 << 23
	var l []uint32
	for from := uint32(0); from < inf; from += step {
		for _, at := range []uint32{0, 1, 2, 3, step/2 - 1, step / 2, step/2 + 1, step - 2, step - 1} {
			l = append(l, from+at, minus|from+at)
		}
	}
	return append(l, inf, minus|inf)
}

// around are bits, and those on both sides of them, of either sign.
func around(bits, far uint32) []uint32 {
	var l []uint32
	for x := bits - far; x != bits+far+1; x++ {
		l = append(l, x, x^minus)
	}
	return l
}

// nans are a Single's NaNs of either kind, with either sign.
func nans() []uint32 {
	var l []uint32
	for _, frac := range []uint32{1, 2, 1 << 13, 1<<22 - 1, 1 << 22, 1<<22 | 1, 1<<22 | 5, 1<<23 - 1} {
		l = append(l, inf|frac, minus|inf|frac)
	}
	return l
}

// limits are the numbers at which a program turns, and those beside them.
func limits() []uint32 {
	var l []uint32
	for _, bits := range []uint32{0x42b17218, 0x42cff1b5, 0x41102cb4, 0x3fb504f3, 0x3f3504f3, one, half, two, norm} {
		l = append(l, around(bits, 300)...)
	}
	for n := range 152 { // halfway between two whole powers of 2
		l = append(l, around(math.Float32bits(float32((float64(n)+0.5)*math.Ln2)), 3)...)
	}
	for from := uint32(0); from < inf; from += norm { // m of each exponent beside the greatest one that isn't halved
		l = append(l, around(from+0x3504f3, 2)...)
	}
	return l
}

// numbers are all of these, whole parts of 1, numbers near 1 in size, small ones, and some without a pattern.
func numbers() []uint32 {
	l := append(append(edges(), limits()...), nans()...)
	for k := range 4096 {
		v := math.Float32bits(float32(k) / 512)
		l = append(l, v, minus|v)
	}
	c := chain(0x9e3779b97f4a7c15)
	for range 30000 {
		v := c.next()
		l = append(l, v, v&^inf|(0x78+c.next()%16)<<23, v&(minus|norm-1))
	}
	return l
}

// P12.1, P12.2, P12.3: all programs, as the machine's own floats run them.
func TestAsTheMachines(t *testing.T) {
	l := numbers()
	for _, f := range faces() {
		for _, x := range l {
			f.hold(t, x, f.by(machine{}, x))
		}
	}
}
