package prod

import (
	"math"
	"math/big"
	"testing"

	"anneal/api"
)

// layout is what IEEE 754 (and the document, of Brain) says of a format, written
// out; the least number is 2 to -low.
type layout struct {
	name                   string
	f, frac, low           int
	sign, inf, quiet, mask uint32
	one                    uint32
}

var half = layout{name: "Half", f: api.Half, frac: 10, low: 24, sign: 0x8000, inf: 0x7c00, quiet: 0x7e00, mask: 0xffff, one: 0x3c00}

var brain = layout{name: "Brain", f: api.Brain, frac: 7, low: 133, sign: 0x8000, inf: 0x7f80, quiet: 0x7fc0, mask: 0xffff, one: 0x3f80}

var single = layout{name: "Single", f: api.Single, frac: 23, low: 149, sign: 0x80000000, inf: 0x7f800000, quiet: 0x7fc00000, mask: 0xffffffff, one: 0x3f800000}

func layouts() []layout { return []layout{half, brain, single} }

// modes are the five, and some that are no mode's, which count as NearEven.
func modes() []int {
	return []int{api.NearEven, api.ToZero, api.Up, api.Down, api.NearAway, 5, -1, math.MaxInt, math.MinInt}
}

// answer is what Mul and Fma answer, as one value.
type answer struct {
	v uint32
	x api.Exc
}

func mul(f, mode int, a, b uint32) answer {
	v, x := Mul(f, mode, a, b)
	return answer{v, x}
}

func fma(f, mode int, a, b, c uint32) answer {
	v, x := Fma(f, mode, a, b, c)
	return answer{v, x}
}

// holdMul asks for a times b, either way round and with both signs turned, and
// holds the answers against the one that is wanted.
func (w layout) holdMul(t *testing.T, promise string, mode int, a, b uint32, want answer) {
	t.Helper()
	for _, k := range [][2]uint32{{a, b}, {b, a}, {a ^ w.sign, b ^ w.sign}} {
		if got := mul(w.f, mode, k[0], k[1]); got != want {
			t.Fatalf("%s: %s: Mul in mode %d of %#x, %#x is %#x, %+v, not %#x, %+v", promise, w.name, mode, k[0], k[1], got.v, got.x, want.v, want.x)
		}
	}
}

// holdFma asks for a times b and c together, with the product either way round
// and with both its signs turned.
func (w layout) holdFma(t *testing.T, promise string, mode int, a, b, c uint32, want answer) {
	t.Helper()
	for _, k := range [][2]uint32{{a, b}, {b, a}, {a ^ w.sign, b ^ w.sign}} {
		if got := fma(w.f, mode, k[0], k[1], c); got != want {
			t.Fatalf("%s: %s: Fma in mode %d of %#x, %#x, %#x is %#x, %+v, not %#x, %+v", promise, w.name, mode, k[0], k[1], c, got.v, got.x, want.v, want.x)
		}
	}
}

// units tells how many of the format's least number a finite one is.
func (w layout) units(v uint32) *big.Int {
	step, size := uint32(1)<<w.frac, v&w.mask&^w.sign
	n := new(big.Int).SetUint64(uint64(size))
	if size >= step {
		n.SetUint64(uint64(step + size%step))
		n.Lsh(n, uint(size/step-1))
	}
	if v&w.sign != 0 {
		n.Neg(n)
	}
	return n
}

// exact is a number without any rounding: the one at or below it, without its
// sign, by the bits of a format that has no end, how what is left compares with
// half a step, and whether it is below the least normal number.
type exact struct {
	nought, neg, left, small bool
	bits                     uint64
	half                     int
}

// exact tells a times b and c together, counted in squares of the least number.
func (w layout) exact(a, b, c uint32) exact {
	s := new(big.Int).Mul(w.units(a), w.units(b))
	z := w.units(c)
	s.Add(s, z.Lsh(z, uint(w.low)))
	e := exact{nought: s.Sign() == 0, neg: s.Sign() < 0}
	s.Abs(s)
	n := uint(max(w.low, s.BitLen()-w.frac-1))
	kept := new(big.Int).Rsh(s, n)
	rest := new(big.Int).Sub(s, new(big.Int).Lsh(kept, n))
	e.bits = uint64(int(n)-w.low)<<w.frac + kept.Uint64()
	e.left = rest.Sign() != 0
	e.small = s.BitLen() <= w.frac+w.low
	e.half = rest.Lsh(rest, 1).Cmp(new(big.Int).Lsh(big.NewInt(1), n))
	return e
}

// grows tells whether the number beyond is taken, for what is left of it.
func (e exact) grows(mode int) bool {
	switch mode {
	case api.ToZero:
		return false
	case api.Up:
		return !e.neg && e.left
	case api.Down:
		return e.neg && e.left
	case api.NearAway:
		return e.left && e.half >= 0
	}
	return e.left && (e.half > 0 || e.half == 0 && e.bits%2 == 1)
}

// rounded is what the document says of a number that isn't nought, in a mode.
func (w layout) rounded(e exact, mode int) answer {
	to := e.bits
	if e.grows(mode) {
		to++
	}
	sign := uint32(0)
	if e.neg {
		sign = w.sign
	}
	if to < uint64(w.inf) {
		return answer{sign | uint32(to), api.Exc{Under: e.left && e.small, Inexact: e.left}}
	}
	over := api.Exc{Over: true, Inexact: true}
	if mode == api.ToZero || mode == api.Up && e.neg || mode == api.Down && !e.neg {
		return answer{sign | (w.inf - 1), over}
	}
	return answer{sign | w.inf, over}
}

// wantedMul is what the document says of two finite numbers' product in a mode.
func (w layout) wantedMul(e exact, mode int, a, b uint32) answer {
	if e.nought {
		return answer{v: (a ^ b) & w.sign}
	}
	return w.rounded(e, mode)
}

// wantedFma is what the document says of three finite numbers in a mode.
func (w layout) wantedFma(e exact, mode int, a, b, c uint32) answer {
	size := w.mask &^ w.sign
	product := (a ^ b) & w.sign
	switch {
	case !e.nought:
		return w.rounded(e, mode)
	case (a&size == 0 || b&size == 0) && c&w.mask == product:
		return answer{v: product}
	case mode == api.Down:
		return answer{v: w.sign}
	}
	return answer{}
}

// holdProduct holds the product of two finite numbers in each mode against the exact one.
func (w layout) holdProduct(t *testing.T, promise string, a, b uint32) {
	t.Helper()
	e := w.exact(a, b, 0)
	for _, mode := range modes() {
		w.holdMul(t, promise, mode, a, b, w.wantedMul(e, mode, a, b))
	}
}

// holdTogether holds Fma of three finite numbers in each mode against the exact one.
func (w layout) holdTogether(t *testing.T, promise string, a, b, c uint32) {
	t.Helper()
	e := w.exact(a, b, c)
	for _, mode := range modes() {
		w.holdFma(t, promise, mode, a, b, c, w.wantedFma(e, mode, a, b, c))
	}
}

// edges are finite numbers at each exponent: few, half, and all of the fraction's steps.
func (w layout) edges() []uint32 {
	step := uint32(1) << w.frac
	var l []uint32
	for from := uint32(0); from < w.inf; from += step {
		l = append(l, from, from+1, from+2, from+step/2-1, from+step/2, from+step/2+1, from+step-2, from+step-1)
	}
	return l
}

// some are finite numbers at the exponents where something happens, with either sign.
func (w layout) some() []uint32 {
	step := uint32(1) << w.frac
	var l []uint32
	for _, from := range []uint32{0, step, w.one / 2 &^ (step - 1), w.one - step, w.one, w.inf - step} {
		for _, v := range []uint32{from, from + 1, from + step/2, from + step - 1} {
			l = append(l, v, v|w.sign)
		}
	}
	return l
}

// without are finite numbers without a pattern, the same in each run.
func (w layout) without(n int) []uint32 {
	var l []uint32
	v := uint64(0x9e3779b97f4a7c15)
	for len(l) < n {
		v ^= v << 13
		v ^= v >> 7
		v ^= v << 17
		if k := uint32(v>>32) & w.mask; k&w.inf != w.inf {
			l = append(l, k)
		}
	}
	return l
}

// nans are a format's NaNs, with either sign; signals: those with the fraction's highest bit 0.
func (w layout) nans() (quiets, signals []uint32) {
	top := w.quiet - w.inf
	for _, sign := range []uint32{0, w.sign} {
		quiets = append(quiets, sign|w.quiet, sign|w.quiet|1, sign|w.quiet|top>>1, sign|w.quiet|(top-1))
		signals = append(signals, sign|w.inf|1, sign|w.inf|top>>1, sign|w.inf|(top-1))
	}
	return quiets, signals
}

// finites are a few finite numbers that aren't nought.
func (w layout) finites() []uint32 {
	return []uint32{1, w.sign | 1, w.one, w.sign | w.one, w.inf - 1, w.sign | (w.inf - 1)}
}

func (w layout) noughts() []uint32 { return []uint32{0, w.sign} }

func (w layout) infinities() []uint32 { return []uint32{w.inf, w.sign | w.inf} }

// numbers are noughts, a few finite numbers and the infinities.
func (w layout) numbers() []uint32 {
	return append(append(w.noughts(), w.finites()...), w.infinities()...)
}

// row is three numbers, written out, with the answers in NearEven, ToZero, Up, Down, NearAway.
type row struct {
	w       layout
	a, b, c uint32
	want    [5]uint32
	x       [5]api.Exc
}

// mirror tells for a mode the one that is wanted where signs are turned.
func mirror(mode int) int {
	return [5]int{api.NearEven, api.ToZero, api.Down, api.Up, api.NearAway}[mode]
}

// holdMul holds the row's product, and with a's sign turned; c says nothing.
func (r row) holdMul(t *testing.T, promise string) {
	t.Helper()
	for mode := range 5 {
		r.w.holdMul(t, promise, mode, r.a, r.b, answer{r.want[mode], r.x[mode]})
		r.w.holdMul(t, promise, mirror(mode), r.a^r.w.sign, r.b, answer{r.want[mode] ^ r.w.sign, r.x[mode]})
	}
}

// holdFma holds the row's three numbers together, and with the signs of a and c turned.
func (r row) holdFma(t *testing.T, promise string) {
	t.Helper()
	for mode := range 5 {
		r.w.holdFma(t, promise, mode, r.a, r.b, r.c, answer{r.want[mode], r.x[mode]})
		r.w.holdFma(t, promise, mirror(mode), r.a^r.w.sign, r.b, r.c^r.w.sign, answer{r.want[mode] ^ r.w.sign, r.x[mode]})
	}
}

// same is one of a kind for each mode.
func same[T any](v T) [5]T { return [5]T{v, v, v, v, v} }

var (
	none    = api.Exc{}
	inexact = api.Exc{Inexact: true}
	under   = api.Exc{Under: true, Inexact: true}
	over    = api.Exc{Over: true, Inexact: true}
	invalid = api.Exc{Invalid: true}
)
