package quot

import (
	"math"
	"math/big"
	"testing"

	"anneal/api"
)

// layout is what IEEE 754 (and the document, of Brain) says of a format, written
// out; the least number is 2 to -low.
type layout struct {
	name                   string
	f, frac, low           int
	sign, inf, quiet, mask uint32
	one                    uint32
}

var half = layout{name: "Half", f: api.Half, frac: 10, low: 24, sign: 0x8000, inf: 0x7c00, quiet: 0x7e00, mask: 0xffff, one: 0x3c00}

var brain = layout{name: "Brain", f: api.Brain, frac: 7, low: 133, sign: 0x8000, inf: 0x7f80, quiet: 0x7fc0, mask: 0xffff, one: 0x3f80}

var single = layout{name: "Single", f: api.Single, frac: 23, low: 149, sign: 0x80000000, inf: 0x7f800000, quiet: 0x7fc00000, mask: 0xffffffff, one: 0x3f800000}

func layouts() []layout { return []layout{half, brain, single} }

// modes are the five, and some that are no mode's, which count as NearEven.
func modes() []int {
	return []int{api.NearEven, api.ToZero, api.Up, api.Down, api.NearAway, 5, -1, math.MaxInt, math.MinInt}
}

// answer is what Div and Sqrt answer, as one value.
type answer struct {
	v uint32
	x api.Exc
}

func div(f, mode int, a, b uint32) answer {
	v, x := Div(f, mode, a, b)
	return answer{v, x}
}

func sqrt(f, mode int, a uint32) answer {
	v, x := Sqrt(f, mode, a)
	return answer{v, x}
}

// holdDiv asks for a by b, and with both signs turned, and holds the answers
// against the one that is wanted.
func (w layout) holdDiv(t *testing.T, promise string, mode int, a, b uint32, want answer) {
	t.Helper()
	for _, k := range [][2]uint32{{a, b}, {a ^ w.sign, b ^ w.sign}} {
		if got := div(w.f, mode, k[0], k[1]); got != want {
			t.Fatalf("%s: %s: Div in mode %d of %#x, %#x is %#x, %+v, not %#x, %+v", promise, w.name, mode, k[0], k[1], got.v, got.x, want.v, want.x)
		}
	}
}

// holdSqrt asks for a's root and holds the answer against the one that is wanted.
func (w layout) holdSqrt(t *testing.T, promise string, mode int, a uint32, want answer) {
	t.Helper()
	if got := sqrt(w.f, mode, a); got != want {
		t.Fatalf("%s: %s: Sqrt in mode %d of %#x is %#x, %+v, not %#x, %+v", promise, w.name, mode, a, got.v, got.x, want.v, want.x)
	}
}

// units tells how many of the format's least number a finite one is, without its sign.
func (w layout) units(v uint32) *big.Int {
	step, size := uint32(1)<<w.frac, v&w.mask&^w.sign
	n := new(big.Int).SetUint64(uint64(size))
	if size >= step {
		n.SetUint64(uint64(step + size%step))
		n.Lsh(n, uint(size/step-1))
	}
	return n
}

// exact is a number without any rounding: the one at or below it, without its
// sign, by the bits of a format that has no end, how what is left compares with
// half a step, and whether it is below the least normal number.
type exact struct {
	neg, left, small bool
	bits             uint64
	half             int
}

// step tells the power of 2, counted in least numbers, that is the step of the
// numbers where whole least numbers lie.
func (w layout) step(whole *big.Int) uint {
	return uint(max(0, whole.BitLen()-w.frac-1))
}

// quotient tells a by b, neither of them nought, counted in least numbers.
func (w layout) quotient(a, b uint32) exact {
	top, by := w.units(a), w.units(b)
	top.Lsh(top, uint(w.low))
	whole := new(big.Int).Quo(top, by)
	n := w.step(whole)
	by.Lsh(by, n)
	kept, rest := new(big.Int).QuoRem(top, by, new(big.Int))
	return exact{
		neg:   (a^b)&w.sign != 0,
		left:  rest.Sign() != 0,
		small: whole.BitLen() <= w.frac,
		bits:  uint64(n)<<w.frac + kept.Uint64(),
		half:  rest.Lsh(rest, 1).Cmp(by),
	}
}

// root tells the root of a, which is above nought, counted in least numbers: its
// square is counted in squares of these.
func (w layout) root(a uint32) exact {
	square := w.units(a)
	square.Lsh(square, uint(w.low))
	whole := new(big.Int).Sqrt(square)
	n := w.step(whole)
	kept := new(big.Int).Rsh(whole, n)
	at := new(big.Int).Lsh(kept, n)
	twice := new(big.Int).Lsh(kept, 1) // and one more, of half steps, is the middle
	middle := twice.Lsh(twice.SetBit(twice, 0, 1), n)
	return exact{
		left:  at.Mul(at, at).Cmp(square) != 0,
		small: whole.BitLen() <= w.frac,
		bits:  uint64(n)<<w.frac + kept.Uint64(),
		half:  square.Lsh(square, 2).Cmp(middle.Mul(middle, middle)),
	}
}

// grows tells whether the number beyond is taken, for what is left of it.
func (e exact) grows(mode int) bool {
	switch mode {
	case api.ToZero:
		return false
	case api.Up:
		return !e.neg && e.left
	case api.Down:
		return e.neg && e.left
	case api.NearAway:
		return e.left && e.half >= 0
	}
	return e.left && (e.half > 0 || e.half == 0 && e.bits%2 == 1)
}

// rounded is what the document says of a number that isn't nought, in a mode.
func (w layout) rounded(e exact, mode int) answer {
	to := e.bits
	if e.grows(mode) {
		to++
	}
	sign := uint32(0)
	if e.neg {
		sign = w.sign
	}
	if to < uint64(w.inf) {
		return answer{sign | uint32(to), api.Exc{Under: e.left && e.small, Inexact: e.left}}
	}
	over := api.Exc{Over: true, Inexact: true}
	if mode == api.ToZero || mode == api.Up && e.neg || mode == api.Down && !e.neg {
		return answer{sign | (w.inf - 1), over}
	}
	return answer{sign | w.inf, over}
}

// holdQuotient holds a by b, finite and not nought, in each mode against the exact one.
func (w layout) holdQuotient(t *testing.T, promise string, a, b uint32) {
	t.Helper()
	e := w.quotient(a, b)
	for _, mode := range modes() {
		w.holdDiv(t, promise, mode, a, b, w.rounded(e, mode))
	}
}

// holdRoot holds the root of a, finite and above nought, in each mode against the exact one.
func (w layout) holdRoot(t *testing.T, promise string, a uint32) {
	t.Helper()
	e := w.root(a)
	for _, mode := range modes() {
		w.holdSqrt(t, promise, mode, a, w.rounded(e, mode))
	}
}

// edges are finite numbers at each exponent, above nought: few, half, and all
// of the fraction's steps.
func (w layout) edges() []uint32 {
	step := uint32(1) << w.frac
	var l []uint32
	for from := uint32(0); from < w.inf; from += step {
		l = append(l, from, from+1, from+2, from+step/2-1, from+step/2, from+step/2+1, from+step-2, from+step-1)
	}
	return l[1:]
}

// some are finite numbers at the exponents where something happens, with either sign, none nought.
func (w layout) some() []uint32 {
	step := uint32(1) << w.frac
	var l []uint32
	for _, from := range []uint32{0, step, w.one / 2 &^ (step - 1), w.one - step, w.one, w.inf - step} {
		for _, v := range []uint32{from, from + 1, from + step/2, from + step - 1} {
			l = append(l, v, v|w.sign)
		}
	}
	return l[2:]
}

// without are finite numbers without a pattern, none nought, the same in each run.
func (w layout) without(n int) []uint32 {
	var l []uint32
	v := uint64(0x9e3779b97f4a7c15)
	for len(l) < n {
		v ^= v << 13
		v ^= v >> 7
		v ^= v << 17
		if k := uint32(v>>32) & w.mask; k&w.inf != w.inf && k&^w.sign != 0 {
			l = append(l, k)
		}
	}
	return l
}

// nans are a format's NaNs, with either sign; signals: those with the fraction's highest bit 0.
func (w layout) nans() (quiets, signals []uint32) {
	top := w.quiet - w.inf
	for _, sign := range []uint32{0, w.sign} {
		quiets = append(quiets, sign|w.quiet, sign|w.quiet|1, sign|w.quiet|top>>1, sign|w.quiet|(top-1))
		signals = append(signals, sign|w.inf|1, sign|w.inf|top>>1, sign|w.inf|(top-1))
	}
	return quiets, signals
}

// finites are a few finite numbers that aren't nought.
func (w layout) finites() []uint32 {
	return []uint32{1, w.sign | 1, w.one, w.sign | w.one, w.inf - 1, w.sign | (w.inf - 1)}
}

func (w layout) noughts() []uint32 { return []uint32{0, w.sign} }

func (w layout) infinities() []uint32 { return []uint32{w.inf, w.sign | w.inf} }

// numbers are noughts, a few finite numbers and the infinities.
func (w layout) numbers() []uint32 {
	return append(append(w.noughts(), w.finites()...), w.infinities()...)
}

// row is two numbers, written out, with the answers in NearEven, ToZero, Up, Down, NearAway.
type row struct {
	w    layout
	a, b uint32
	want [5]uint32
	x    [5]api.Exc
}

// mirror tells for a mode the one that is wanted where signs are turned.
func mirror(mode int) int {
	return [5]int{api.NearEven, api.ToZero, api.Down, api.Up, api.NearAway}[mode]
}

// holdDiv holds the row's quotient, and with a's sign turned.
func (r row) holdDiv(t *testing.T, promise string) {
	t.Helper()
	for mode := range 5 {
		r.w.holdDiv(t, promise, mode, r.a, r.b, answer{r.want[mode], r.x[mode]})
		r.w.holdDiv(t, promise, mirror(mode), r.a^r.w.sign, r.b, answer{r.want[mode] ^ r.w.sign, r.x[mode]})
	}
}

// holdSqrt holds the root of the row's first number; b says nothing.
func (r row) holdSqrt(t *testing.T, promise string) {
	t.Helper()
	for mode := range 5 {
		r.w.holdSqrt(t, promise, mode, r.a, answer{r.want[mode], r.x[mode]})
	}
}

// same is one of a kind for each mode.
func same[T any](v T) [5]T { return [5]T{v, v, v, v, v} }

var (
	none    = api.Exc{}
	inexact = api.Exc{Inexact: true}
	under   = api.Exc{Under: true, Inexact: true}
	over    = api.Exc{Over: true, Inexact: true}
	invalid = api.Exc{Invalid: true}
	divZero = api.Exc{DivZero: true}
)
