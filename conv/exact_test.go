package conv

import (
	"math"
	"testing"

	"anneal/api"
)

// layout is what IEEE 754 (and the document, of Brain) says of a format, written
// out; the least number is 2 to -low.
type layout struct {
	name                   string
	f, frac, low           int
	sign, inf, quiet, mask uint32
}

var half = layout{name: "Half", f: api.Half, frac: 10, low: 24, sign: 0x8000, inf: 0x7c00, quiet: 0x7e00, mask: 0xffff}

var brain = layout{name: "Brain", f: api.Brain, frac: 7, low: 133, sign: 0x8000, inf: 0x7f80, quiet: 0x7fc0, mask: 0xffff}

var single = layout{name: "Single", f: api.Single, frac: 23, low: 149, sign: 0x80000000, inf: 0x7f800000, quiet: 0x7fc00000, mask: 0xffffffff}

// formats are the three.
func formats() []layout { return []layout{half, brain, single} }

// layouts are the three formats, and numbers that are no format's, which count as Single.
func layouts() []layout {
	l := formats()
	for _, f := range []int{-1, 3, 255, 1 << 32, math.MaxInt, math.MinInt} {
		other := single
		other.name, other.f = "no format", f
		l = append(l, other)
	}
	return l
}

// modes are the five, and some that are no mode's, which count as NearEven.
func modes() []int {
	return []int{api.NearEven, api.ToZero, api.Up, api.Down, api.NearAway, 5, -1, math.MaxInt, math.MinInt}
}

// answer is what To answers, as one value.
type answer struct {
	v uint32
	x api.Exc
}

var (
	none    = api.Exc{}
	inexact = api.Exc{Inexact: true}
	under   = api.Exc{Under: true, Inexact: true}
	over    = api.Exc{Over: true, Inexact: true}
	invalid = api.Exc{Invalid: true}
)

// above are bits over a format's own, which say nothing.
func (w layout) above() []uint32 {
	if w.mask == 0xffff {
		return []uint32{0, 0x00010000, 0x80000000, 0xffff0000, 0xabcd0000}
	}
	return []uint32{0}
}

// hold asks To, with bits above the format's and without, and holds its answer against the one that is wanted.
func hold(t *testing.T, promise string, from, to layout, mode int, a uint32, want answer) {
	t.Helper()
	for _, more := range from.above() {
		if v, x := To(from.f, to.f, mode, a|more); v != want.v || x != want.x {
			t.Fatalf("%s: To from %s (%d) to %s (%d) in mode %d of %#x is %#x, %+v, not %#x, %+v", promise, from.name, from.f, to.name, to.f, mode, a|more, v, x, want.v, want.x)
		}
	}
}

// holdWiden asks Widen, with bits above the format's and without.
func (w layout) holdWiden(t *testing.T, promise string, a, want uint32) {
	t.Helper()
	for _, more := range w.above() {
		if got := Widen(w.f, a|more); got != want {
			t.Fatalf("%s: Widen of %s (%d) %#x is %#x, not %#x", promise, w.name, w.f, a|more, got, want)
		}
	}
}

// holdNarrow asks Narrow.
func (w layout) holdNarrow(t *testing.T, promise string, a, want uint32) {
	t.Helper()
	if got := Narrow(w.f, a); got != want {
		t.Fatalf("%s: Narrow to %s (%d) of %#x is %#x, not %#x", promise, w.name, w.f, a, got, want)
	}
}

// edges are finite numbers at each exponent, without a sign: few, half, and all
// of the fraction's steps; nought is the first.
func (w layout) edges() []uint32 {
	step := uint32(1) << w.frac
	var l []uint32
	for from := uint32(0); from < w.inf; from += step {
		l = append(l, from, from+1, from+2, from+step/2-1, from+step/2, from+step/2+1, from+step-2, from+step-1)
	}
	return l
}

// without are numbers without a pattern, finite ones and others, of either sign, the same in each run.
func (w layout) without(n int) []uint32 {
	l := make([]uint32, n)
	v := uint64(0x9e3779b97f4a7c15)
	for i := range l {
		v ^= v << 13
		v ^= v >> 7
		v ^= v << 17
		l[i] = uint32(v>>32) & w.mask
	}
	return l
}

// patterns are all bits of a format of 16, and of a wider one those at each edge,
// those that are no number and some without a pattern.
func (w layout) patterns() []uint32 {
	var l []uint32
	if w.mask == 0xffff {
		for v := range uint32(1 << 16) {
			l = append(l, v)
		}
		return l
	}
	quiets, signals := w.nans()
	for _, v := range append(w.edges(), w.inf) {
		l = append(l, v, w.sign|v)
	}
	return append(append(append(l, quiets...), signals...), w.without(20000)...)
}

// nans are a format's NaNs, with either sign; signals: those with the fraction's highest bit 0.
func (w layout) nans() (quiets, signals []uint32) {
	top := w.quiet - w.inf
	for _, sign := range []uint32{0, w.sign} {
		quiets = append(quiets, sign|w.quiet, sign|w.quiet|1, sign|w.quiet|top>>1, sign|w.quiet|(top-1))
		signals = append(signals, sign|w.inf|1, sign|w.inf|top>>1, sign|w.inf|(top-1))
	}
	return quiets, signals
}

// number is what a format's finite number is, with its sign apart, which noughts have too.
// A float of the machine's has room for each of the formats' numbers.
type number struct {
	neg  bool
	size float64
}

// number tells what a finite number's bits stand for.
func (w layout) number(v uint32) number {
	step, size := uint32(1)<<w.frac, v&w.mask&^w.sign
	r := math.Ldexp(float64(size), -w.low)
	if size >= step {
		r = math.Ldexp(float64(step+size%step), int(size/step)-1-w.low)
	}
	return number{v&w.sign != 0, r}
}

// becomes is what the document says of v, some bits of w's, in another format.
func (w layout) becomes(to layout, mode int, v uint32) answer {
	sign := uint32(0)
	if v&w.sign != 0 {
		sign = to.sign
	}
	switch size := v & w.mask &^ w.sign; {
	case size > w.inf:
		return answer{to.quiet, api.Exc{Invalid: size < w.quiet}}
	case size == w.inf:
		return answer{sign | to.inf, none}
	}
	n := w.number(v)
	if n.size == 0 {
		return answer{sign, none}
	}
	return to.rounded(mode, n)
}

// rounded is what chapter 3 says of a number that isn't nought. Scaling by a
// power of 2 loses nothing here, and all that is scaled is far from a float's ends.
func (w layout) rounded(mode int, n number) answer {
	_, e := math.Frexp(n.size)
	up := max(e-1-w.frac+w.low, 0) // how often the least number doubles to be the unit
	kept, rest := math.Modf(math.Ldexp(n.size, w.low-up))
	if grows(mode, n.neg, math.Mod(kept, 2) == 1, rest) {
		kept++
	}
	sign := uint32(0)
	if n.neg {
		sign = w.sign
	}
	if math.Ldexp(kept, up-w.low) <= w.number(w.inf-1).size {
		small := n.size < math.Ldexp(1, w.frac-w.low)
		return answer{sign | (uint32(up)<<w.frac + uint32(kept)), api.Exc{Under: small && rest != 0, Inexact: rest != 0}}
	}
	if mode == api.ToZero || mode == api.Up && n.neg || mode == api.Down && !n.neg {
		return answer{sign | (w.inf - 1), over}
	}
	return answer{sign | w.inf, over}
}

// grows tells whether a number goes to the greater one of two multiples, without its sign.
func grows(mode int, neg, odd bool, rest float64) bool {
	switch mode {
	case api.ToZero:
		return false
	case api.Up:
		return rest > 0 && !neg
	case api.Down:
		return rest > 0 && neg
	case api.NearAway:
		return rest >= 0.5
	}
	return rest > 0.5 || rest == 0.5 && odd
}
