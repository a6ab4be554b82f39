package round

import (
	"math"
	"math/big"
	"sort"
	"testing"

	"anneal/api"
)

// layout is what the document says of a format, written out.
type layout struct {
	name        string
	f           int
	frac        int
	great, sign uint64
	unit        int // the least number is 2 to it
}

var half = layout{name: "Half", f: api.Half, frac: 10, great: 0x7bff, sign: 0x8000, unit: -24}

var brain = layout{name: "Brain", f: api.Brain, frac: 7, great: 0x7f7f, sign: 0x8000, unit: -133}

var single = layout{name: "Single", f: api.Single, frac: 23, great: 0x7f7fffff, sign: 0x80000000, unit: -149}

func layouts() []layout { return []layout{half, brain, single} }

// signs are both, as Pack takes them.
func signs() []bool { return []bool{false, true} }

// modes are the five, and some that are no mode's, which count as NearEven.
func modes() []int {
	return []int{api.NearEven, api.ToZero, api.Up, api.Down, api.NearAway, 5, -1, math.MaxInt, math.MinInt}
}

// answer is what Pack answers, as one value.
type answer struct {
	v uint32
	x api.Exc
}

func pack(f, mode int, neg bool, exp int, sig uint64, more bool) answer {
	v, x := Pack(f, mode, neg, exp, sig, more)
	return answer{v, x}
}

// hold asks Pack and holds its answer against the one that is wanted.
func hold(t *testing.T, promise string, f, mode int, neg bool, exp int, sig uint64, more bool, want answer) {
	t.Helper()
	if got := pack(f, mode, neg, exp, sig, more); got != want {
		t.Fatalf("%s: Pack(%d, %d, %v, %d, %#x, %v) is %#x, %+v, not %#x, %+v", promise, f, mode, neg, exp, sig, more, got.v, got.x, want.v, want.x)
	}
}

// Where a number lies between two neighbours.
const (
	atLower = iota
	belowHalf
	atHalf
	aboveHalf
)

// goesUp is what the document says of a mode, row by row, for a number without
// a sign; even: the lower neighbour is the even one.
func goesUp(mode int, neg bool, at int, even bool) bool {
	if neg && mode == api.Up {
		mode = api.Down
	} else if neg && mode == api.Down {
		mode = api.Up
	}
	switch mode {
	case api.ToZero, api.Down:
		return false
	case api.Up:
		return at != atLower
	case api.NearAway:
		return at == atHalf || at == aboveHalf
	}
	return at == aboveHalf || at == atHalf && !even
}

// wanted is the answer for a number that lies at the lower multiple or above
// it, and below the next one; bits go on above the Greatest as if it weren't there.
func (w layout) wanted(mode int, neg bool, lower uint64, at int) answer {
	to := lower
	if goesUp(mode, neg, at, lower%2 == 0) {
		to++
	}
	sign := uint64(0)
	if neg {
		sign = w.sign
	}
	if to <= w.great {
		inexact := at != atLower
		return answer{uint32(sign + to), api.Exc{Inexact: inexact, Under: inexact && lower < 1<<w.frac}}
	}
	over := api.Exc{Over: true, Inexact: true}
	switch {
	case mode == api.ToZero, mode == api.Up && neg, mode == api.Down && !neg:
		return answer{uint32(sign + w.great), over}
	}
	return answer{uint32(sign + w.great + 1), over}
}

// parts make the number that the bits v stand for, of a format whose exponents have no end.
func (w layout) parts(v uint64) (int, uint64) {
	step := uint64(1) << w.frac
	if v < step {
		return w.unit, v
	}
	return w.unit + int(v/step) - 1, step + v%step
}

// P3.1: the chapter's example, in each mode, with either sign.
func TestExample(t *testing.T) {
	inexact := api.Exc{Inexact: true}
	for mode, want := range map[int][2]uint32{api.NearEven: {0x6800, 0xe800}, api.ToZero: {0x6800, 0xe800}, api.Up: {0x6801, 0xe800}, api.Down: {0x6800, 0xe801}, api.NearAway: {0x6801, 0xe801}} {
		hold(t, "P3.1", api.Half, mode, false, 0, 2049, false, answer{want[0], inexact})
		hold(t, "P3.1", api.Half, mode, true, 0, 2049, false, answer{want[1], inexact})
	}
}

// edges are numbers' bits at each exponent of a format, up to two exponents above the Greatest.
func (w layout) edges() []uint64 {
	step := uint64(1) << w.frac
	var l []uint64
	for from := uint64(0); from < w.great+2*step; from += step {
		l = append(l, from, from+1, from+2, from+step/2-1, from+step/2, from+step/2+1, from+step-2, from+step-1)
	}
	return l
}

// every are all numbers' bits of a format of 16, and a wider one's edges.
func (w layout) every() []uint64 {
	if w.sign > 0x8000 {
		return w.edges()
	}
	var l []uint64
	for v := uint64(0); v <= w.great+2<<w.frac; v++ {
		l = append(l, v)
	}
	return l
}

// P3.1, P3.2: each number, and what lies between it and the next one, in each mode with either sign.
func TestEachNumberAndBetween(t *testing.T) {
	for _, w := range layouts() {
		for _, v := range w.every() {
			exp, sig := w.parts(v)
			for quarter := range uint64(4) {
				for _, more := range signs() {
					if v == 0 && quarter == 0 && !more {
						continue // nought is apart
					}
					at := int(quarter)
					switch {
					case quarter == 0 && more, quarter == 1:
						at = belowHalf
					case quarter == 2 && more, quarter == 3:
						at = aboveHalf
					}
					for _, mode := range modes() {
						for _, neg := range signs() {
							hold(t, "P3.1", w.f, mode, neg, exp-2, sig*4+quarter, more, w.wanted(mode, neg, v, at))
						}
					}
				}
			}
		}
	}
}

// scale makes whole numbers of all that TestAgainstNeighbours takes; more is one of them.
const scale = 400

// place finds by halving the multiple at or below r, and where r lies above it.
func (w layout) place(exp int, sig uint64, more bool) (uint64, int) {
	r := new(big.Int).Lsh(new(big.Int).SetUint64(sig), uint(exp+scale))
	if more {
		r.Add(r, big.NewInt(1))
	}
	number := func(v uint64) *big.Int {
		exp, sig := w.parts(v)
		return new(big.Int).Lsh(new(big.Int).SetUint64(sig), uint(exp+scale))
	}
	lower := uint64(sort.Search(1000<<w.frac, func(v int) bool { return number(uint64(v)).Cmp(r) > 0 }) - 1)
	down := new(big.Int).Sub(r, number(lower))
	up := new(big.Int).Sub(number(lower+1), r)
	if down.Sign() == 0 {
		return lower, atLower
	}
	return lower, belowHalf + 1 + down.Cmp(up)
}

// sigs are whole numbers of each length with few, some and all bits set, and
// some without a pattern that are the same in each run.
func sigs() []uint64 {
	l := []uint64{0x0123456789abcdef, 0xfedcba9876543210, 0xaaaaaaaaaaaaaaaa, 0x5555555555555555, 0x8000000000000001, 0xc000000000000000, math.MaxUint64}
	for _, n := range []int{0, 1, 2, 6, 7, 8, 9, 10, 11, 12, 22, 23, 24, 25, 26, 40, 62, 63} {
		one := uint64(1) << n
		l = append(l, one, one+1, one*2-1, one|one>>1)
	}
	v := uint64(0x9e3779b97f4a7c15)
	for range 25 {
		v ^= v << 13
		v ^= v >> 7
		v ^= v << 17
		l = append(l, v, v>>(v&63)|1)
	}
	return l
}

// P3.1, P3.2: whole numbers of any length at the exponents that bring them to
// a format's edges, held against the two multiples beside them.
func TestAgainstNeighbours(t *testing.T) {
	for _, w := range layouts() {
		_, top := w.parts(w.great + 1)
		topExp, _ := w.parts(w.great + 1)
		greatest := topExp + big.NewInt(int64(top)).BitLen()
		for _, sig := range sigs() {
			long := new(big.Int).SetUint64(sig).BitLen()
			for near := -4; near <= 4; near++ {
				for _, from := range []int{w.unit, w.unit + w.frac, 0, greatest} {
					exp := from + near - long
					for _, more := range signs() {
						lower, at := w.place(exp, sig, more)
						for _, mode := range modes() {
							for _, neg := range signs() {
								hold(t, "P3.1", w.f, mode, neg, exp, sig, more, w.wanted(mode, neg, lower, at))
							}
						}
					}
				}
			}
		}
	}
}

// P3.1: Singles by the nearest are the machine's own.
func TestAgainstTheMachine(t *testing.T) {
	for _, sig := range sigs() {
		sig >>= 11 // as many bits as the machine's doubles have
		for exp := -230; exp <= 130; exp++ {
			v := float32(math.Ldexp(float64(sig), exp))
			got, _ := Pack(api.Single, api.NearEven, false, exp, sig, false)
			if want := math.Float32bits(v); got != want {
				t.Fatalf("P3.1: Pack(Single, NearEven, false, %d, %#x, false) is %#x, not %#x", exp, sig, got, want)
			}
		}
	}
}

// exps are exponents at and beyond every edge that the document names.
func exps() []int {
	return []int{math.MinInt, math.MinInt + 1, math.MinInt32, -1 << 40, -10064, -10001, -10000, -9999, -1000, -150, -149, -134, -25, -24, -1, 0, 1, 15, 16, 127, 128, 1000, 9999, 10000, 10001, 10064, 1 << 40, math.MaxInt32, math.MaxInt - 1, math.MaxInt}
}

// P3.1, P3.2: nought is Zero with its sign, and nothing happened.
func TestNought(t *testing.T) {
	for _, w := range layouts() {
		for _, mode := range modes() {
			for _, exp := range exps() {
				hold(t, "P3.1", w.f, mode, false, exp, 0, false, answer{})
				hold(t, "P3.2", w.f, mode, true, exp, 0, false, answer{v: uint32(w.sign)})
			}
		}
	}
}

// P3.1: sig 0 with more is below all numbers, whatever the exponent.
func TestMoreAlone(t *testing.T) {
	for _, w := range layouts() {
		for _, mode := range modes() {
			for _, exp := range exps() {
				for _, neg := range signs() {
					hold(t, "P3.1", w.f, mode, neg, exp, 0, true, w.wanted(mode, neg, 0, belowHalf))
				}
			}
		}
	}
}

// P3.1: exponents beyond -10000 to 10000 are those, and numbers there below or above all.
func TestFarExponents(t *testing.T) {
	for _, w := range layouts() {
		for _, exp := range exps() {
			if exp > -1000 && exp < 1000 {
				continue
			}
			for _, sig := range sigs() {
				for _, mode := range modes() {
					for _, neg := range signs() {
						for _, more := range signs() {
							want := w.wanted(mode, neg, 0, belowHalf)
							if exp > 0 {
								want = w.wanted(mode, neg, w.great+1, atLower)
							}
							hold(t, "P3.1", w.f, mode, neg, exp, sig, more, want)
						}
					}
				}
			}
		}
	}
}

// atGreatest is a number beside the Greatest, and what each mode makes of it.
type atGreatest struct {
	exp  int
	sig  uint64
	more bool
	over [5]bool // by NearEven, ToZero, Up, Down, NearAway
	inf  [5]bool // Inf, else the Greatest
	x    bool    // inexact
}

// P3.1: what is above the Greatest, written out for halves without a sign.
func TestBeyondTheGreatest(t *testing.T) {
	all := [5]bool{true, true, true, true, true}
	away := [5]bool{true, false, true, false, true}
	for _, b := range []atGreatest{
		{0, 65504, false, [5]bool{}, [5]bool{}, false},
		{0, 65504, true, [5]bool{2: true}, [5]bool{2: true}, true},
		{0, 65519, false, [5]bool{2: true}, [5]bool{2: true}, true},
		{0, 65519, true, [5]bool{2: true}, [5]bool{2: true}, true},
		{0, 65520, false, away, away, true},
		{0, 65520, true, away, away, true},
		{0, 65535, false, away, away, true},
		{0, 65535, true, away, away, true},
		{0, 65536, false, all, away, true},
		{0, 65536, true, all, away, true},
		{16, 1, false, all, away, true},
		{-40, 1 << 56, false, all, away, true},
		{0, 70000, false, all, away, true},
		{0, math.MaxUint64, true, all, away, true},
	} {
		for mode := range 5 {
			want := answer{0x7bff, api.Exc{Over: b.over[mode], Inexact: b.x}}
			if b.inf[mode] {
				want.v = 0x7c00
			}
			hold(t, "P3.1", api.Half, mode, false, b.exp, b.sig, b.more, want)
			mirror := mode
			switch mode {
			case api.Up:
				mirror = api.Down
			case api.Down:
				mirror = api.Up
			}
			want.v |= 0x8000
			hold(t, "P3.1", api.Half, mirror, true, b.exp, b.sig, b.more, want)
		}
	}
}

// P3.2: Under is told of what lies below the least normal number ahead of
// rounding, and isn't a multiple; a multiple that is nought has its sign.
func TestUnder(t *testing.T) {
	under, inexact := api.Exc{Under: true, Inexact: true}, api.Exc{Inexact: true}
	for _, x := range []struct {
		f, mode int
		neg     bool
		exp     int
		sig     uint64
		more    bool
		want    answer
	}{
		{api.Half, api.NearEven, false, -25, 1, false, answer{0, under}},
		{api.Half, api.NearEven, true, -25, 1, false, answer{0x8000, under}},
		{api.Half, api.NearEven, true, -25, 1, true, answer{0x8001, under}},
		{api.Half, api.NearAway, true, -25, 1, false, answer{0x8001, under}},
		{api.Half, api.ToZero, true, -25, 1, true, answer{0x8000, under}},
		{api.Half, api.Up, true, -25, 1, true, answer{0x8000, under}},
		{api.Half, api.Down, false, -25, 1, true, answer{0, under}},
		{api.Half, api.NearEven, false, -24, 1023, false, answer{0x03ff, api.Exc{}}},
		{api.Half, api.NearEven, false, -24, 1023, true, answer{0x03ff, under}},
		{api.Half, api.NearEven, false, -25, 2047, false, answer{0x0400, under}},
		{api.Half, api.Up, false, -24, 1023, true, answer{0x0400, under}},
		{api.Half, api.NearEven, false, -24, 1024, false, answer{0x0400, api.Exc{}}},
		{api.Half, api.NearEven, false, -24, 1024, true, answer{0x0400, inexact}},
		{api.Half, api.Up, false, -24, 1024, true, answer{0x0401, inexact}},
		{api.Brain, api.NearEven, true, -134, 255, false, answer{0x8080, under}},
		{api.Brain, api.ToZero, true, -134, 255, false, answer{0x807f, under}},
		{api.Brain, api.NearEven, true, -134, 256, true, answer{0x8080, inexact}},
		{api.Single, api.NearEven, false, -150, 1<<24 - 1, false, answer{0x00800000, under}},
		{api.Single, api.ToZero, false, -150, 1<<24 - 1, false, answer{0x007fffff, under}},
		{api.Single, api.NearEven, false, -150, 1 << 24, true, answer{0x00800000, inexact}},
		{api.Single, api.NearEven, false, -149, 1, false, answer{1, api.Exc{}}},
		{api.Single, api.NearEven, false, -213, 1 << 63, false, answer{0, under}},
		{api.Single, api.NearEven, false, -213, 1<<63 + 1, false, answer{1, under}},
	} {
		hold(t, "P3.2", x.f, x.mode, x.neg, x.exp, x.sig, x.more, x.want)
	}
}

// P3.1: the step to the next exponent, where all ones become a one with noughts.
func TestNextExponent(t *testing.T) {
	inexact := api.Exc{Inexact: true}
	for _, x := range []struct {
		f, exp int
		sig    uint64
		down   uint32
	}{
		{api.Half, -1, 4095, 0x67ff},
		{api.Half, -64, math.MaxUint64, 0x3bff},
		{api.Brain, -1, 511, 0x437f},
		{api.Brain, -64, math.MaxUint64, 0x3f7f},
		{api.Single, -1, 1<<25 - 1, 0x4b7fffff},
		{api.Single, -64, math.MaxUint64, 0x3f7fffff},
	} {
		for _, mode := range []int{api.NearEven, api.NearAway, api.Up} {
			hold(t, "P3.1", x.f, mode, false, x.exp, x.sig, false, answer{x.down + 1, inexact})
		}
		for _, mode := range []int{api.ToZero, api.Down} {
			hold(t, "P3.1", x.f, mode, false, x.exp, x.sig, false, answer{x.down, inexact})
		}
	}
}

// P3.1: formats beyond the three count as Single.
func TestOtherFormats(t *testing.T) {
	for _, f := range []int{3, -1, 255, 1 << 32, math.MaxInt, math.MinInt} {
		for _, sig := range sigs() {
			for _, exp := range exps() {
				for _, mode := range modes() {
					for _, neg := range signs() {
						hold(t, "P3.1", f, mode, neg, exp, sig, true, pack(api.Single, mode, neg, exp, sig, true))
					}
				}
			}
		}
	}
}

// P3.3: one number has one answer, however it is told.
func TestOneNumberOneAnswer(t *testing.T) {
	for _, w := range layouts() {
		for _, sig := range sigs() {
			for sig%2 == 0 {
				sig /= 2
			}
			long := new(big.Int).SetUint64(sig).BitLen()
			for _, exp := range []int{w.unit - long - 1, w.unit - long, w.unit - 3, w.unit, w.unit + 5, 0, 3, 16 - long, 128 - long, 9999} {
				for _, mode := range modes() {
					for _, neg := range signs() {
						for _, more := range signs() {
							want := pack(w.f, mode, neg, exp, sig, more)
							for n := 1; n <= 64-long; n++ {
								hold(t, "P3.3", w.f, mode, neg, exp-n, sig<<n, more, want)
							}
						}
					}
				}
			}
		}
	}
}

// P3.3: Up of a number is Down of its opposite, and nothing but a format's bits is answered.
func TestOpposites(t *testing.T) {
	mirror := map[int]int{api.NearEven: api.NearEven, api.ToZero: api.ToZero, api.Up: api.Down, api.Down: api.Up, api.NearAway: api.NearAway}
	for _, w := range layouts() {
		for _, sig := range append(sigs(), 0) {
			for _, exp := range exps() {
				for mode, other := range mirror {
					for _, more := range signs() {
						plus, minus := pack(w.f, mode, false, exp, sig, more), pack(w.f, other, true, exp, sig, more)
						if uint64(plus.v) >= w.sign || minus.v != plus.v+uint32(w.sign) || minus.x != plus.x {
							t.Fatalf("P3.3: %s: %d, %#x, %v in mode %d: %#x, %+v and %#x, %+v", w.name, exp, sig, more, mode, plus.v, plus.x, minus.v, minus.x)
						}
					}
				}
			}
		}
	}
}
