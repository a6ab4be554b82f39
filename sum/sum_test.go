package sum

import (
	"math"
	"math/big"
	"testing"

	"anneal/api"
)

// layout is what IEEE 754 (and the document, of Brain) says of a format, written out.
type layout struct {
	name                   string
	f, frac                int
	sign, inf, quiet, mask uint32
	one                    uint32
}

var half = layout{name: "Half", f: api.Half, frac: 10, sign: 0x8000, inf: 0x7c00, quiet: 0x7e00, mask: 0xffff, one: 0x3c00}

var brain = layout{name: "Brain", f: api.Brain, frac: 7, sign: 0x8000, inf: 0x7f80, quiet: 0x7fc0, mask: 0xffff, one: 0x3f80}

var single = layout{name: "Single", f: api.Single, frac: 23, sign: 0x80000000, inf: 0x7f800000, quiet: 0x7fc00000, mask: 0xffffffff, one: 0x3f800000}

func layouts() []layout { return []layout{half, brain, single} }

// modes are the five, and some that are no mode's, which count as NearEven.
func modes() []int {
	return []int{api.NearEven, api.ToZero, api.Up, api.Down, api.NearAway, 5, -1, math.MaxInt, math.MinInt}
}

// answer is what Add and Sub answer, as one value.
type answer struct {
	v uint32
	x api.Exc
}

func add(f, mode int, a, b uint32) answer {
	v, x := Add(f, mode, a, b)
	return answer{v, x}
}

func sub(f, mode int, a, b uint32) answer {
	v, x := Sub(f, mode, a, b)
	return answer{v, x}
}

// hold asks for a and b together, either way round, and for each less the other
// one's opposite, and holds the answers against the one that is wanted.
func (w layout) hold(t *testing.T, promise string, mode int, a, b uint32, want answer) {
	t.Helper()
	for _, x := range []struct {
		call string
		got  answer
	}{
		{"Add", add(w.f, mode, a, b)},
		{"Add, turned round,", add(w.f, mode, b, a)},
		{"Sub of the opposite", sub(w.f, mode, a, b^w.sign)},
		{"Sub of the opposite, turned round,", sub(w.f, mode, b, a^w.sign)},
	} {
		if x.got != want {
			t.Fatalf("%s: %s: %s in mode %d of %#x, %#x is %#x, %+v, not %#x, %+v", promise, w.name, x.call, mode, a, b, x.got.v, x.got.x, want.v, want.x)
		}
	}
}

// units tells how many of the format's least number a finite one is.
func (w layout) units(v uint32) *big.Int {
	step, size := uint32(1)<<w.frac, v&w.mask&^w.sign
	n := new(big.Int).SetUint64(uint64(size))
	if size >= step {
		n.SetUint64(uint64(step + size%step))
		n.Lsh(n, uint(size/step-1))
	}
	if v&w.sign != 0 {
		n.Neg(n)
	}
	return n
}

// exact is the sum of two finite numbers without any rounding: the number at or
// below it, without its sign, by the bits of a format that has no end, and how
// what is left compares with half a step; a sum that is one of the numbers has none left.
type exact struct {
	nought, neg, left bool
	bits              uint64
	half              int
}

func (w layout) exact(a, b uint32) exact {
	s := new(big.Int).Add(w.units(a), w.units(b))
	e := exact{nought: s.Sign() == 0, neg: s.Sign() < 0}
	s.Abs(s)
	n := uint(max(0, s.BitLen()-w.frac-1))
	kept := new(big.Int).Rsh(s, n)
	rest := new(big.Int).Sub(s, new(big.Int).Lsh(kept, n))
	e.bits = uint64(n)<<w.frac + kept.Uint64()
	e.left = rest.Sign() != 0
	e.half = rest.Lsh(rest, 1).Cmp(new(big.Int).Lsh(big.NewInt(1), n))
	return e
}

// grows tells whether the number beyond is taken, for what is left of a sum.
func (e exact) grows(mode int) bool {
	switch mode {
	case api.ToZero:
		return false
	case api.Up:
		return !e.neg && e.left
	case api.Down:
		return e.neg && e.left
	case api.NearAway:
		return e.left && e.half >= 0
	}
	return e.left && (e.half > 0 || e.half == 0 && e.bits%2 == 1)
}

// wanted is what the document says of two finite numbers' sum in a mode.
func (w layout) wanted(e exact, mode int, a, b uint32) answer {
	if e.nought {
		switch {
		case (a^b)&w.mask == 0:
			return answer{v: a & w.mask}
		case mode == api.Down:
			return answer{v: w.sign}
		}
		return answer{}
	}
	to := e.bits
	if e.grows(mode) {
		to++
	}
	sign := uint32(0)
	if e.neg {
		sign = w.sign
	}
	if to < uint64(w.inf) {
		return answer{sign | uint32(to), api.Exc{Inexact: e.left}}
	}
	over := api.Exc{Over: true, Inexact: true}
	if mode == api.ToZero || mode == api.Up && e.neg || mode == api.Down && !e.neg {
		return answer{sign | (w.inf - 1), over}
	}
	return answer{sign | w.inf, over}
}

// holdSum holds the sum of two finite numbers in each mode against the exact one.
func (w layout) holdSum(t *testing.T, promise string, a, b uint32) {
	t.Helper()
	e := w.exact(a, b)
	for _, mode := range modes() {
		w.hold(t, promise, mode, a, b, w.wanted(e, mode, a, b))
	}
}

// edges are finite numbers at each exponent: few, half, and all of the fraction's steps.
func (w layout) edges() []uint32 {
	step := uint32(1) << w.frac
	var l []uint32
	for from := uint32(0); from < w.inf; from += step {
		l = append(l, from, from+1, from+2, from+step/2-1, from+step/2, from+step/2+1, from+step-2, from+step-1)
	}
	return l
}

// some are finite numbers at the exponents where something happens, with either sign.
func (w layout) some() []uint32 {
	step := uint32(1) << w.frac
	var l []uint32
	for _, from := range []uint32{0, step, 2 * step, w.one, w.inf - 2*step, w.inf - step} {
		for _, v := range []uint32{from, from + 1, from + step/2, from + step - 2, from + step - 1} {
			l = append(l, v, v|w.sign)
		}
	}
	return l
}

// without are numbers without a pattern, the same in each run.
func without(n int) []uint32 {
	var l []uint32
	v := uint64(0x9e3779b97f4a7c15)
	for range n {
		v ^= v << 13
		v ^= v >> 7
		v ^= v << 17
		l = append(l, uint32(v>>32))
	}
	return l
}

// nans are a format's NaNs, with either sign; signals: those with the fraction's highest bit 0.
func (w layout) nans() (quiets, signals []uint32) {
	top := w.quiet - w.inf
	for _, sign := range []uint32{0, w.sign} {
		quiets = append(quiets, sign|w.quiet, sign|w.quiet|1, sign|w.quiet|top>>1, sign|w.quiet|(top-1))
		signals = append(signals, sign|w.inf|1, sign|w.inf|top>>1, sign|w.inf|(top-1))
	}
	return quiets, signals
}

// others are numbers, infinities among them, that a NaN is added to.
func (w layout) others() []uint32 {
	return []uint32{0, w.sign, 1, w.sign | 1, w.one, w.sign | w.one, w.inf - 1, w.sign | (w.inf - 1), w.inf, w.sign | w.inf}
}

// P4.1: the chapter's example, and what is like it in the other formats.
func TestExample(t *testing.T) {
	for _, w := range layouts() {
		two := w.one + 1<<w.frac
		for _, mode := range modes() {
			w.hold(t, "P4.1", mode, w.one, w.one, answer{v: two})
			w.hold(t, "P4.1", mode, w.sign|w.one, w.sign|w.one, answer{v: w.sign | two})
			w.hold(t, "P4.1", mode, two, w.sign|w.one, answer{v: w.one})
		}
	}
}

// P4.1: what isn't a number makes the plain NaN, whatever the other one is;
// Invalid just if one is Signal, on whichever side.
func TestNans(t *testing.T) {
	for _, w := range layouts() {
		quiets, signals := w.nans()
		plain, invalid := answer{v: w.quiet}, answer{w.quiet, api.Exc{Invalid: true}}
		for _, mode := range modes() {
			for _, q := range quiets {
				for _, other := range append(w.others(), quiets...) {
					w.hold(t, "P4.1", mode, q, other, plain)
				}
			}
			for _, s := range signals {
				for _, other := range append(append(w.others(), quiets...), signals...) {
					w.hold(t, "P4.1", mode, s, other, invalid)
				}
			}
		}
	}
}

// P4.1: infinities of unlike signs are Invalid; any other sum with one is that one.
func TestInfinities(t *testing.T) {
	for _, w := range layouts() {
		plus, minus := w.inf, w.sign|w.inf
		for _, mode := range modes() {
			w.hold(t, "P4.1", mode, plus, minus, answer{w.quiet, api.Exc{Invalid: true}})
			w.hold(t, "P4.1", mode, plus, plus, answer{v: plus})
			w.hold(t, "P4.1", mode, minus, minus, answer{v: minus})
			for _, v := range append(w.some(), w.edges()...) {
				w.hold(t, "P4.1", mode, plus, v, answer{v: plus})
				w.hold(t, "P4.1", mode, minus, v, answer{v: minus})
			}
		}
	}
}

// P4.1: two noughts with one sign keep it; with two signs they have none, but one in mode Down.
func TestNoughts(t *testing.T) {
	for _, w := range layouts() {
		for _, mode := range modes() {
			unlike := answer{}
			if mode == api.Down {
				unlike.v = w.sign
			}
			w.hold(t, "P4.1", mode, 0, 0, answer{})
			w.hold(t, "P4.1", mode, w.sign, w.sign, answer{v: w.sign})
			w.hold(t, "P4.1", mode, 0, w.sign, unlike)
		}
	}
}

// P4.1: a number and its opposite are nought without a sign, with one in mode Down.
func TestSumsThatAreNought(t *testing.T) {
	for _, w := range layouts() {
		for _, mode := range modes() {
			want := answer{}
			if mode == api.Down {
				want.v = w.sign
			}
			for _, v := range w.edges() {
				if v != 0 {
					w.hold(t, "P4.1", mode, v, v|w.sign, want)
				}
			}
		}
	}
}

// P4.1: nought, with either sign, leaves a number as it is.
func TestNoughtAndANumber(t *testing.T) {
	for _, w := range layouts() {
		for _, mode := range modes() {
			for _, v := range w.edges() {
				if v == 0 {
					continue
				}
				for _, nought := range []uint32{0, w.sign} {
					w.hold(t, "P4.1", mode, v, nought, answer{v: v})
					w.hold(t, "P4.1", mode, v|w.sign, nought, answer{v: v | w.sign})
				}
			}
		}
	}
}

// P4.1, P4.2: Halves at each exponent's edges, each with each.
func TestHalvesEachWithEach(t *testing.T) {
	edges := half.edges()
	for _, a := range edges {
		for _, b := range edges {
			if b <= a {
				half.holdSum(t, "P4.1", a, b)
				half.holdSum(t, "P4.1", a|half.sign, b)
			}
		}
	}
}

// P4.1, P4.2: each Half and each Brain number with a few.
func TestEveryNumberOfSixteenBits(t *testing.T) {
	for _, w := range []layout{half, brain} {
		for _, a := range []uint32{1, w.one, w.sign | (w.one + 1), w.inf - 1} {
			for b := range w.inf {
				w.holdSum(t, "P4.1", a, b)
			}
		}
	}
}

// P4.1, P4.2: numbers with eight bits of exponent, far apart and near one another.
func TestAgainstTheExactSum(t *testing.T) {
	for _, w := range []layout{brain, single} {
		for _, a := range w.some() {
			for _, b := range w.edges() {
				w.holdSum(t, "P4.1", a, b)
			}
		}
	}
}

// P4.1, P4.2: numbers without a pattern, and others at each distance from them.
func TestAtEachDistance(t *testing.T) {
	list := without(300)
	for _, w := range layouts() {
		step := uint32(1) << w.frac
		for k, v := range list {
			a := v & w.mask
			if a&w.inf == w.inf {
				continue
			}
			up := w.inf/step - a&w.inf/step // how many exponents there are from a's up to the infinite one
			for distance := range up {
				b := a + distance*step
				b ^= list[(k+1)%len(list)] & (step - 1)
				w.holdSum(t, "P4.1", a, b)
				w.holdSum(t, "P4.1", a, b^w.sign)
			}
		}
	}
}

// P4.1: Singles by the nearest are the machine's own.
func TestAgainstTheMachine(t *testing.T) {
	l := append(without(700), single.some()...)
	l = append(l, single.inf, single.sign|single.inf)
	for _, a := range l {
		for _, b := range l {
			x, y := math.Float32frombits(a), math.Float32frombits(b)
			for _, c := range []struct {
				got  answer
				want float32
			}{{add(api.Single, api.NearEven, a, b), x + y}, {sub(api.Single, api.NearEven, a, b), x - y}} {
				want := math.Float32bits(c.want)
				if c.want != c.want {
					want = single.quiet
				}
				if c.got.v != want {
					t.Fatalf("P4.1: of %#x, %#x there is %#x, not %#x", a, b, c.got.v, want)
				}
			}
		}
	}
}

// row is a sum that is written out, with its answers in NearEven, ToZero, Up, Down, NearAway.
type row struct {
	w    layout
	a, b uint32
	want [5]uint32
	x    [5]api.Exc
}

func (r row) holdRow(t *testing.T, promise string) {
	t.Helper()
	for mode := range 5 {
		r.w.hold(t, promise, mode, r.a, r.b, answer{r.want[mode], r.x[mode]})
	}
	mirror := [5]int{api.NearEven, api.ToZero, api.Down, api.Up, api.NearAway}
	for mode := range 5 {
		r.w.hold(t, promise, mirror[mode], r.a^r.w.sign, r.b^r.w.sign, answer{r.want[mode] ^ r.w.sign, r.x[mode]})
	}
}

// same is one of a kind for each mode.
func same[T any](v T) [5]T { return [5]T{v, v, v, v, v} }

var (
	inexact = api.Exc{Inexact: true}
	over    = api.Exc{Over: true, Inexact: true}
)

// P4.1: sums beside the Greatest and above it.
func TestAboveTheGreatest(t *testing.T) {
	for _, r := range []row{
		{half, 0x7bff, 0x7bff, [5]uint32{0x7c00, 0x7bff, 0x7c00, 0x7bff, 0x7c00}, same(over)},
		{half, 0x7bff, 0x4c00, [5]uint32{0x7c00, 0x7bff, 0x7c00, 0x7bff, 0x7c00}, [5]api.Exc{over, inexact, over, inexact, over}},
		{half, 0x7bff, 0x4bff, [5]uint32{0x7bff, 0x7bff, 0x7c00, 0x7bff, 0x7bff}, [5]api.Exc{inexact, inexact, over, inexact, inexact}},
		{half, 0x7bff, 0x0001, [5]uint32{0x7bff, 0x7bff, 0x7c00, 0x7bff, 0x7bff}, [5]api.Exc{inexact, inexact, over, inexact, inexact}},
		{half, 0x7bff, 0x5000, [5]uint32{0x7c00, 0x7bff, 0x7c00, 0x7bff, 0x7c00}, same(over)},
		{half, 0x7bfe, 0x5000, same[uint32](0x7bff), same(api.Exc{})},
		{half, 0x7bff, 0x8001, [5]uint32{0x7bff, 0x7bfe, 0x7bff, 0x7bfe, 0x7bff}, same(inexact)},
		{brain, 0x7f7f, 0x7f7f, [5]uint32{0x7f80, 0x7f7f, 0x7f80, 0x7f7f, 0x7f80}, same(over)},
		{brain, 0x7f7f, 0x0001, [5]uint32{0x7f7f, 0x7f7f, 0x7f80, 0x7f7f, 0x7f7f}, [5]api.Exc{inexact, inexact, over, inexact, inexact}},
		{single, 0x7f7fffff, 0x7f7fffff, [5]uint32{0x7f800000, 0x7f7fffff, 0x7f800000, 0x7f7fffff, 0x7f800000}, same(over)},
		{single, 0x7f7fffff, 0x73000000, [5]uint32{0x7f800000, 0x7f7fffff, 0x7f800000, 0x7f7fffff, 0x7f800000}, [5]api.Exc{over, inexact, over, inexact, over}},
		{single, 0x7f7fffff, 0x00000001, [5]uint32{0x7f7fffff, 0x7f7fffff, 0x7f800000, 0x7f7fffff, 0x7f7fffff}, [5]api.Exc{inexact, inexact, over, inexact, inexact}},
		{single, 0x7f7fffff, 0x80000001, [5]uint32{0x7f7fffff, 0x7f7ffffe, 0x7f7fffff, 0x7f7ffffe, 0x7f7fffff}, same(inexact)},
	} {
		r.holdRow(t, "P4.1")
	}
}

// P4.1: subnormal numbers add up as they stand, up to the least normal one and beyond.
func TestSubnormals(t *testing.T) {
	for _, r := range []row{
		{half, 0x0001, 0x0001, same[uint32](0x0002), same(api.Exc{})},
		{half, 0x03ff, 0x0001, same[uint32](0x0400), same(api.Exc{})},
		{half, 0x03ff, 0x03ff, same[uint32](0x07fe), same(api.Exc{})},
		{half, 0x0400, 0x8001, same[uint32](0x03ff), same(api.Exc{})},
		{half, 0x0801, 0x8800, same[uint32](0x0002), same(api.Exc{})},
		{half, 0x3c00, 0x0001, [5]uint32{0x3c00, 0x3c00, 0x3c01, 0x3c00, 0x3c00}, same(inexact)},
		{half, 0x3c00, 0x8001, [5]uint32{0x3c00, 0x3bff, 0x3c00, 0x3bff, 0x3c00}, same(inexact)},
		{brain, 0x007f, 0x0001, same[uint32](0x0080), same(api.Exc{})},
		{brain, 0x0080, 0x8001, same[uint32](0x007f), same(api.Exc{})},
		{brain, 0x3f80, 0x8001, [5]uint32{0x3f80, 0x3f7f, 0x3f80, 0x3f7f, 0x3f80}, same(inexact)},
		{single, 0x007fffff, 0x00000001, same[uint32](0x00800000), same(api.Exc{})},
		{single, 0x00800000, 0x80000001, same[uint32](0x007fffff), same(api.Exc{})},
		{single, 0x3f800000, 0x00000001, [5]uint32{0x3f800000, 0x3f800000, 0x3f800001, 0x3f800000, 0x3f800000}, same(inexact)},
		{single, 0x3f800000, 0x80000001, [5]uint32{0x3f800000, 0x3f7fffff, 0x3f800000, 0x3f7fffff, 0x3f800000}, same(inexact)},
	} {
		r.holdRow(t, "P4.1")
	}
}

// P4.2: what lies a very little beside half a step isn't taken for half of one,
// as it would be by who rounds on the way.
func TestOneRounding(t *testing.T) {
	for _, r := range []row{
		{half, 0x6800, 0x3c01, [5]uint32{0x6801, 0x6800, 0x6801, 0x6800, 0x6801}, same(inexact)}, // 2048 and a little more than 1
		{half, 0x6800, 0x3c00, [5]uint32{0x6800, 0x6800, 0x6801, 0x6800, 0x6801}, same(inexact)},
		{half, 0x6800, 0x3bff, [5]uint32{0x6800, 0x6800, 0x6801, 0x6800, 0x6800}, same(inexact)},
		{half, 0x6801, 0x3bff, [5]uint32{0x6801, 0x6801, 0x6802, 0x6801, 0x6801}, same(inexact)},
		{half, 0x6801, 0x3c00, [5]uint32{0x6802, 0x6801, 0x6802, 0x6801, 0x6802}, same(inexact)},
		{half, 0x6800, 0xb801, [5]uint32{0x67ff, 0x67ff, 0x6800, 0x67ff, 0x67ff}, same(inexact)}, // below 2048 a step is half as wide
		{half, 0x6800, 0xb800, [5]uint32{0x6800, 0x67ff, 0x6800, 0x67ff, 0x6800}, same(inexact)},
		{half, 0x6800, 0xb7ff, [5]uint32{0x6800, 0x67ff, 0x6800, 0x67ff, 0x6800}, same(inexact)},
		{brain, 0x4380, 0x3f81, [5]uint32{0x4381, 0x4380, 0x4381, 0x4380, 0x4381}, same(inexact)},
		{brain, 0x4381, 0x3f7f, [5]uint32{0x4381, 0x4381, 0x4382, 0x4381, 0x4381}, same(inexact)},
		{single, 0x3f800000, 0x33800001, [5]uint32{0x3f800001, 0x3f800000, 0x3f800001, 0x3f800000, 0x3f800001}, same(inexact)},
		{single, 0x3f800001, 0x337fffff, [5]uint32{0x3f800001, 0x3f800001, 0x3f800002, 0x3f800001, 0x3f800001}, same(inexact)},
		{single, 0x3f800000, 0xb3000001, [5]uint32{0x3f7fffff, 0x3f7fffff, 0x3f800000, 0x3f7fffff, 0x3f7fffff}, same(inexact)},
		{single, 0x3f800000, 0xb2ffffff, [5]uint32{0x3f800000, 0x3f7fffff, 0x3f800000, 0x3f7fffff, 0x3f800000}, same(inexact)},
	} {
		r.holdRow(t, "P4.2")
	}
}

// P4.2: numbers that are within twice one another have a difference that needs no rounding.
func TestNearNumbersAreExact(t *testing.T) {
	for _, w := range layouts() {
		step := uint32(1) << w.frac
		for _, v := range without(2000) {
			a := v & w.mask &^ w.sign
			if a >= w.inf-step {
				continue
			}
			for _, b := range []uint32{a, a + 1, a + 2, a + step/2, a + step - 1, a + step} {
				for _, mode := range modes() {
					if _, x := Sub(w.f, mode, a, b); x != (api.Exc{}) {
						t.Fatalf("P4.2: %s: Sub in mode %d of %#x, %#x tells %+v", w.name, mode, a, b, x)
					}
				}
			}
		}
	}
}

// P4.1: formats beyond the three count as Single.
func TestOtherFormats(t *testing.T) {
	l := append(single.some(), single.inf, single.sign|single.inf, single.quiet, single.inf|1)
	for _, f := range []int{3, -1, 255, 1 << 32, math.MaxInt, math.MinInt} {
		for _, mode := range modes() {
			for _, a := range l {
				for _, b := range l {
					if got, want := add(f, mode, a, b), add(api.Single, mode, a, b); got != want {
						t.Fatalf("P4.1: Add in format %d, mode %d of %#x, %#x is %+v, not %+v", f, mode, a, b, got, want)
					}
					if got, want := sub(f, mode, a, b), sub(api.Single, mode, a, b); got != want {
						t.Fatalf("P4.1: Sub in format %d, mode %d of %#x, %#x is %+v, not %+v", f, mode, a, b, got, want)
					}
				}
			}
		}
	}
}

// P4.1: bits above a format's say nothing, and none are answered.
func TestBitsAboveAFormats(t *testing.T) {
	for _, w := range []layout{half, brain} {
		quiets, signals := w.nans()
		l := append(append(append(w.some(), w.others()...), quiets...), signals...)
		for _, mode := range modes() {
			for _, a := range l {
				for _, b := range l {
					want := add(w.f, mode, a, b)
					if want.v&^w.mask != 0 {
						t.Fatalf("P4.1: %s: Add in mode %d of %#x, %#x is %#x", w.name, mode, a, b, want.v)
					}
					w.hold(t, "P4.1", mode, a|0x10000, b, want)
					w.hold(t, "P4.1", mode, a|0xffff0000, b|0xa5a50000, want)
				}
			}
		}
	}
}
