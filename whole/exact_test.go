package whole

import (
	"math"
	"math/big"
	"testing"

	"anneal/api"
)

// layout is what IEEE 754 (and the document, of Brain) says of a format, written
// out; the least number is 2 to -low.
type layout struct {
	name                   string
	f, frac, low           int
	sign, inf, quiet, mask uint32
	one                    uint32
}

var half = layout{name: "Half", f: api.Half, frac: 10, low: 24, sign: 0x8000, inf: 0x7c00, quiet: 0x7e00, mask: 0xffff, one: 0x3c00}

var brain = layout{name: "Brain", f: api.Brain, frac: 7, low: 133, sign: 0x8000, inf: 0x7f80, quiet: 0x7fc0, mask: 0xffff, one: 0x3f80}

var single = layout{name: "Single", f: api.Single, frac: 23, low: 149, sign: 0x80000000, inf: 0x7f800000, quiet: 0x7fc00000, mask: 0xffffffff, one: 0x3f800000}

// layouts are the three formats, and numbers that are no format's, which count as Single.
func layouts() []layout {
	l := []layout{half, brain, single}
	for _, f := range []int{-1, 3, 255, 1 << 32, math.MaxInt, math.MinInt} {
		other := single
		other.name, other.f = "no format", f
		l = append(l, other)
	}
	return l
}

// modes are the five, and some that are no mode's, which count as NearEven.
func modes() []int {
	return []int{api.NearEven, api.ToZero, api.Up, api.Down, api.NearAway, 5, -1, math.MaxInt, math.MinInt}
}

// answer is what FromInt, Round and Scale answer, as one value.
type answer struct {
	v uint32
	x api.Exc
}

func fromInt(f, mode int, v int64) answer {
	r, x := FromInt(f, mode, v)
	return answer{r, x}
}

func madeWhole(f, mode int, a uint32) answer {
	r, x := Round(f, mode, a)
	return answer{r, x}
}

func scale(f, mode int, a uint32, n int) answer {
	r, x := Scale(f, mode, a, n)
	return answer{r, x}
}

// integer is what ToInt answers, as one value.
type integer struct {
	v int32
	x api.Exc
}

func toInt(f, mode int, a uint32) integer {
	v, x := ToInt(f, mode, a)
	return integer{v, x}
}

var (
	none    = api.Exc{}
	inexact = api.Exc{Inexact: true}
	under   = api.Exc{Under: true, Inexact: true}
	over    = api.Exc{Over: true, Inexact: true}
	invalid = api.Exc{Invalid: true}
)

// above are bits over a format's own, which say nothing.
func (w layout) above() []uint32 {
	if w.mask == 0xffff {
		return []uint32{0, 0x00010000, 0x80000000, 0xffff0000, 0xabcd0000}
	}
	return []uint32{0}
}

// holdInt asks FromInt and holds its answer against the one that is wanted.
func (w layout) holdInt(t *testing.T, promise string, mode int, v int64, want answer) {
	t.Helper()
	if got := fromInt(w.f, mode, v); got != want {
		t.Fatalf("%s: %s (%d): FromInt in mode %d of %d is %#x, %+v, not %#x, %+v", promise, w.name, w.f, mode, v, got.v, got.x, want.v, want.x)
	}
}

// holdToInt asks ToInt, with bits above the format's and without.
func (w layout) holdToInt(t *testing.T, promise string, mode int, a uint32, want integer) {
	t.Helper()
	for _, more := range w.above() {
		if got := toInt(w.f, mode, a|more); got != want {
			t.Fatalf("%s: %s (%d): ToInt in mode %d of %#x is %+v, not %+v", promise, w.name, w.f, mode, a|more, got, want)
		}
	}
}

// holdRound asks Round, with bits above the format's and without.
func (w layout) holdRound(t *testing.T, promise string, mode int, a uint32, want answer) {
	t.Helper()
	for _, more := range w.above() {
		if got := madeWhole(w.f, mode, a|more); got != want {
			t.Fatalf("%s: %s (%d): Round in mode %d of %#x is %#x, %+v, not %#x, %+v", promise, w.name, w.f, mode, a|more, got.v, got.x, want.v, want.x)
		}
	}
}

// holdScale asks Scale, with bits above the format's and without.
func (w layout) holdScale(t *testing.T, promise string, mode int, a uint32, n int, want answer) {
	t.Helper()
	for _, more := range w.above() {
		if got := scale(w.f, mode, a|more, n); got != want {
			t.Fatalf("%s: %s (%d): Scale in mode %d of %#x, %d is %#x, %+v, not %#x, %+v", promise, w.name, w.f, mode, a|more, n, got.v, got.x, want.v, want.x)
		}
	}
}

// edges are finite numbers at each exponent, without a sign: few, half, and all
// of the fraction's steps; nought is the first.
func (w layout) edges() []uint32 {
	step := uint32(1) << w.frac
	var l []uint32
	for from := uint32(0); from < w.inf; from += step {
		l = append(l, from, from+1, from+2, from+step/2-1, from+step/2, from+step/2+1, from+step-2, from+step-1)
	}
	return l
}

// without are finite numbers without a pattern, of either sign, the same in each run.
func (w layout) without(n int) []uint32 {
	var l []uint32
	v := uint64(0x9e3779b97f4a7c15)
	for len(l) < n {
		v ^= v << 13
		v ^= v >> 7
		v ^= v << 17
		if k := uint32(v>>32) & w.mask; k&w.inf != w.inf {
			l = append(l, k)
		}
	}
	return l
}

// nans are a format's NaNs, with either sign; signals: those with the fraction's highest bit 0.
func (w layout) nans() (quiets, signals []uint32) {
	top := w.quiet - w.inf
	for _, sign := range []uint32{0, w.sign} {
		quiets = append(quiets, sign|w.quiet, sign|w.quiet|1, sign|w.quiet|top>>1, sign|w.quiet|(top-1))
		signals = append(signals, sign|w.inf|1, sign|w.inf|top>>1, sign|w.inf|(top-1))
	}
	return quiets, signals
}

// real tells what a finite number is, as a float that has room for each of the formats' numbers.
func (w layout) real(v uint32) float64 {
	step, size := uint32(1)<<w.frac, v&w.mask&^w.sign
	r := math.Ldexp(float64(size), -w.low)
	if size >= step {
		r = math.Ldexp(float64(step+size%step), int(size/step)-1-w.low)
	}
	if v&w.sign != 0 {
		return -r
	}
	return r
}

// bits tells the bits of a real that the format has.
func (w layout) bits(x float64) uint32 {
	sign := uint32(0)
	if math.Signbit(x) {
		sign = w.sign
	}
	if x == 0 {
		return sign
	}
	_, e := math.Frexp(x)
	up := max(e-1-w.frac+w.low, 0)
	return sign | (uint32(up)<<w.frac + uint32(math.Ldexp(math.Abs(x), w.low-up)))
}

// near tells the way in which package big rounds as a mode does.
func near(mode int) big.RoundingMode {
	switch mode {
	case api.ToZero:
		return big.ToZero
	case api.Up:
		return big.ToPositiveInf
	case api.Down:
		return big.ToNegativeInf
	case api.NearAway:
		return big.ToNearestAway
	}
	return big.ToNearestEven
}

// power is 2 to n.
func power(n int) *big.Float {
	return new(big.Float).SetMantExp(big.NewFloat(1), n)
}

// multiple rounds x, which isn't nought, to a multiple of the unit that chapter 3 names.
func (w layout) multiple(mode int, x *big.Float) *big.Float {
	rounding := new(big.Float).SetPrec(uint(w.frac + 1)).SetMode(near(mode))
	if new(big.Float).Abs(x).Cmp(power(w.frac-w.low)) >= 0 {
		return rounding.Set(x)
	}
	// Together with a number that is a multiple itself there are just as many
	// places as it takes to end at the least number.
	start := power(w.frac - w.low)
	if x.Signbit() {
		start.Neg(start)
	}
	y := rounding.Add(x, start)
	r := new(big.Float).SetPrec(64).Sub(y, start)
	if r.Sign() == 0 && x.Signbit() {
		r.Neg(r.Abs(r))
	}
	return r
}

// rounded is what chapter 3 says of a number that isn't nought.
func (w layout) rounded(mode int, x *big.Float) answer {
	r := w.multiple(mode, x)
	if new(big.Float).Abs(r).Cmp(big.NewFloat(w.real(w.inf-1))) <= 0 {
		v, _ := r.Float64()
		left := r.Cmp(x) != 0
		return answer{w.bits(v), api.Exc{Under: left && new(big.Float).Abs(x).Cmp(power(w.frac-w.low)) < 0, Inexact: left}}
	}
	sign := uint32(0)
	if x.Signbit() {
		sign = w.sign
	}
	if mode == api.ToZero || mode == api.Up && x.Signbit() || mode == api.Down && !x.Signbit() {
		return answer{sign | (w.inf - 1), over}
	}
	return answer{sign | w.inf, over}
}
