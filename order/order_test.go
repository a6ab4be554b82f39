package order

import (
	"math"
	"slices"
	"testing"

	"anneal/api"
)

// layout is what IEEE 754 (and the document, of Brain) says of a format, written
// out; the least number is 2 to -low.
type layout struct {
	name                       string
	f, frac, low               int
	sign, inf, quiet, mask     uint32
	one, leastNormal, greatest uint32
}

var half = layout{name: "Half", f: api.Half, frac: 10, low: 24, sign: 0x8000, inf: 0x7c00, quiet: 0x7e00, mask: 0xffff, one: 0x3c00, leastNormal: 0x0400, greatest: 0x7bff}

var brain = layout{name: "Brain", f: api.Brain, frac: 7, low: 133, sign: 0x8000, inf: 0x7f80, quiet: 0x7fc0, mask: 0xffff, one: 0x3f80, leastNormal: 0x0080, greatest: 0x7f7f}

var single = layout{name: "Single", f: api.Single, frac: 23, low: 149, sign: 0x80000000, inf: 0x7f800000, quiet: 0x7fc00000, mask: 0xffffffff, one: 0x3f800000, leastNormal: 0x00800000, greatest: 0x7f7fffff}

// layouts are the three formats, and numbers that are no format's, which count as Single.
func layouts() []layout {
	l := []layout{half, brain, single}
	for _, f := range []int{-1, 3, 4, 256, 1 << 16, 1 << 32, -1 << 32, math.MaxInt, math.MinInt} {
		other := single
		other.name, other.f = "no format", f
		l = append(l, other)
	}
	return l
}

// above are bits over a format's own, which say nothing.
func (w layout) above() []uint32 {
	l := []uint32{0}
	if w.mask == 0xffff {
		l = append(l, 0xffff0000, 0x00010000, 0x80000000, 0xabcd0000)
	}
	return l
}

// sizes are numbers without a sign, from the least to the greatest: both sides of each edge.
func (w layout) sizes() []uint32 {
	return []uint32{
		0, 1, 2, w.leastNormal / 2, w.leastNormal - 1,
		w.leastNormal, w.leastNormal + 1, 2*w.leastNormal - 1, 2 * w.leastNormal,
		w.one - 1, w.one, w.one + 1, w.one + w.leastNormal,
		w.greatest - 1, w.greatest, w.inf,
	}
}

// ladder is sizes with a sign, from the last to the first, and then without.
func (w layout) ladder() []uint32 {
	var l []uint32
	for _, v := range slices.Backward(w.sizes()) {
		l = append(l, w.sign|v)
	}
	return append(l, w.sizes()...)
}

// nans are Quiet ones and Signal ones, of either sign, plain and other.
func (w layout) nans() []uint32 {
	var l []uint32
	for _, v := range []uint32{w.quiet, w.quiet + 1, w.sign - 1, w.inf + 1, w.quiet - 1, w.inf + w.quiet&^w.inf/2} {
		l = append(l, v, w.sign|v)
	}
	return l
}

// real tells what number v is, as a float that has room for each of the formats' numbers.
func (w layout) real(v uint32) float64 {
	step, size := uint32(1)<<w.frac, v&w.mask&^w.sign
	r := math.Ldexp(float64(size), -w.low)
	if size >= step {
		r = math.Ldexp(float64(step+size%step), int(size/step)-1-w.low)
	}
	if size == w.inf {
		r = math.Inf(1)
	}
	if v&w.sign != 0 {
		return -r
	}
	return r
}

// compared is what Compare answers, as one value.
type compared struct {
	c  int
	ok bool
}

func compare(f int, a, b uint32) compared {
	c, ok := Compare(f, a, b)
	return compared{c, ok}
}

// holdCompare asks Compare and Less of a and b.
func (w layout) holdCompare(t *testing.T, promise string, a, b uint32, want compared) {
	t.Helper()
	if got := compare(w.f, a, b); got != want {
		t.Fatalf("%s: %s (%d): Compare of %#x, %#x is %v, not %v", promise, w.name, w.f, a, b, got, want)
	}
	if got := Less(w.f, a, b); got != (want == compared{-1, true}) {
		t.Fatalf("%s: %s (%d): Less of %#x, %#x is %v", promise, w.name, w.f, a, b, got)
	}
}

// holdMinMax asks Min and Max of a and b.
func (w layout) holdMinMax(t *testing.T, promise string, a, b, least, greatest uint32) {
	t.Helper()
	if got := Min(w.f, a, b); got != least {
		t.Fatalf("%s: %s (%d): Min of %#x, %#x is %#x, not %#x", promise, w.name, w.f, a, b, got, least)
	}
	if got := Max(w.f, a, b); got != greatest {
		t.Fatalf("%s: %s (%d): Max of %#x, %#x is %#x, not %#x", promise, w.name, w.f, a, b, got, greatest)
	}
}

// holdReal holds two numbers that aren't NaNs against the reals that they are.
func (w layout) holdReal(t *testing.T, promise string, a, b uint32) {
	t.Helper()
	x, y := w.real(a), w.real(b)
	least, greatest := a&w.mask, b&w.mask
	want := compared{0, true}
	switch {
	case x < y:
		want.c = -1
	case x > y:
		want.c = 1
		least, greatest = greatest, least
	case math.Signbit(y): // noughts; others are the same, whichever is told
		least, greatest = greatest, least
	}
	w.holdCompare(t, promise, a, b, want)
	w.holdMinMax(t, promise, a, b, least, greatest)
}

// P7.1: rows that are written out, of ordinary numbers and of each edge.
func TestRows(t *testing.T) {
	for _, r := range []struct {
		w               layout
		a, b            uint32
		c               int
		least, greatest uint32
	}{
		{single, 0x3f800000, 0x40000000, -1, 0x3f800000, 0x40000000},
		{single, 0x40000000, 0x3f800000, 1, 0x3f800000, 0x40000000},
		{single, 0xbf800000, 0xc0000000, 1, 0xc0000000, 0xbf800000},
		{single, 0xc0000000, 0xbf800000, -1, 0xc0000000, 0xbf800000},
		{single, 0xc0000000, 0x3f800000, -1, 0xc0000000, 0x3f800000},
		{single, 0x3f800000, 0xc0000000, 1, 0xc0000000, 0x3f800000},
		{single, 0x40490fdb, 0x40490fdb, 0, 0x40490fdb, 0x40490fdb},
		{single, 0x3f800000, 0x3f800001, -1, 0x3f800000, 0x3f800001},
		{single, 0xbf800000, 0xbf800001, 1, 0xbf800001, 0xbf800000},
		{single, 0x007fffff, 0x00800000, -1, 0x007fffff, 0x00800000},
		{single, 0x807fffff, 0x80800000, 1, 0x80800000, 0x807fffff},
		{single, 0x7f800000, 0x7f7fffff, 1, 0x7f7fffff, 0x7f800000},
		{single, 0xff800000, 0xff7fffff, -1, 0xff800000, 0xff7fffff},
		{single, 0xff800000, 0x7f800000, -1, 0xff800000, 0x7f800000},
		{single, 0x00000000, 0x00000001, -1, 0x00000000, 0x00000001},
		{single, 0x80000000, 0x00000001, -1, 0x80000000, 0x00000001},
		{single, 0x00000000, 0x80000001, 1, 0x80000001, 0x00000000},
		{single, 0x80000000, 0x80000001, 1, 0x80000001, 0x80000000},
		{half, 0x3c00, 0x4000, -1, 0x3c00, 0x4000},
		{half, 0x3c00, 0xc000, 1, 0xc000, 0x3c00},
		{half, 0xbc00, 0xc000, 1, 0xc000, 0xbc00},
		{half, 0x7c00, 0x7bff, 1, 0x7bff, 0x7c00},
		{half, 0x0001, 0x8001, 1, 0x8001, 0x0001},
		{half, 0xffff3c00, 0x00013c00, 0, 0x3c00, 0x3c00},
		{half, 0xffff3c00, 0x00014000, -1, 0x3c00, 0x4000},
		{brain, 0x3f80, 0x4000, -1, 0x3f80, 0x4000},
		{brain, 0xff80, 0xff7f, -1, 0xff80, 0xff7f},
		{brain, 0x80003f80, 0x7fffbf80, 1, 0xbf80, 0x3f80},
	} {
		r.w.holdCompare(t, "P7.1", r.a, r.b, compared{r.c, true})
		r.w.holdMinMax(t, "P7.1", r.a, r.b, r.least, r.greatest)
	}
}

// P7.1: noughts of either sign are as great; Min tells the one with a sign, Max the one without.
func TestNoughts(t *testing.T) {
	for _, w := range layouts() {
		for _, x := range w.above() {
			for _, y := range w.above() {
				for _, r := range []struct{ a, b, least, greatest uint32 }{
					{0, 0, 0, 0},
					{0, w.sign, w.sign, 0},
					{w.sign, 0, w.sign, 0},
					{w.sign, w.sign, w.sign, w.sign},
				} {
					w.holdCompare(t, "P7.1", r.a|x, r.b|y, compared{0, true})
					w.holdMinMax(t, "P7.1", r.a|x, r.b|y, r.least, r.greatest)
				}
			}
		}
	}
}

// P7.1: a NaN of any kind and sign, at either place, against each number.
func TestOneNan(t *testing.T) {
	for _, w := range layouts() {
		for _, nan := range w.nans() {
			for _, v := range w.ladder() {
				for _, x := range w.above() {
					for _, y := range w.above() {
						w.holdCompare(t, "P7.1", nan|x, v|y, compared{})
						w.holdCompare(t, "P7.1", v|y, nan|x, compared{})
						w.holdMinMax(t, "P7.1", nan|x, v|y, v, v)
						w.holdMinMax(t, "P7.1", v|y, nan|x, v, v)
					}
				}
			}
		}
	}
}

// P7.1: of two NaNs, the same one twice too, Min and Max tell the plain one.
func TestTwoNans(t *testing.T) {
	for _, w := range layouts() {
		for _, a := range w.nans() {
			for _, b := range w.nans() {
				for _, more := range w.above() {
					w.holdCompare(t, "P7.1", a|more, b, compared{})
					w.holdCompare(t, "P7.1", a, b|more, compared{})
					w.holdMinMax(t, "P7.1", a|more, b, w.quiet, w.quiet)
					w.holdMinMax(t, "P7.1", a, b|more, w.quiet, w.quiet)
				}
			}
		}
	}
}

// P7.1: what is a NaN in one format is a number in another.
func TestSameBitsOfOtherFormats(t *testing.T) {
	half.holdCompare(t, "P7.1", 0x7c01, 0x3c00, compared{})
	half.holdMinMax(t, "P7.1", 0x7c01, 0x3c00, 0x3c00, 0x3c00)
	brain.holdCompare(t, "P7.1", 0x7c01, 0x3c00, compared{1, true})
	brain.holdMinMax(t, "P7.1", 0x7c01, 0x3c00, 0x3c00, 0x7c01)
	single.holdCompare(t, "P7.1", 0xffff, 0x8000, compared{1, true})
	single.holdMinMax(t, "P7.1", 0xffff, 0x8000, 0x8000, 0xffff)
	brain.holdCompare(t, "P7.1", 0xffff, 0x8000, compared{})
	half.holdMinMax(t, "P7.1", 0x7f800000, 0x7fc08000, 0x8000, 0)
}

// P7.1: infinities, Greatest ones, subnormals, noughts and neighbours, each against each.
func TestLadder(t *testing.T) {
	for _, w := range layouts() {
		for _, a := range w.ladder() {
			for _, b := range w.ladder() {
				for _, x := range w.above() {
					for _, y := range w.above() {
						w.holdReal(t, "P7.1", a|x, b|y)
					}
				}
			}
		}
	}
}

// P7.1: each number of 16 bits against itself, itself with the other sign, its neighbours, a nought, a one.
func TestEveryNumberOfSixteenBits(t *testing.T) {
	for _, w := range []layout{half, brain} {
		for size := range w.inf + 1 {
			for _, v := range []uint32{size, w.sign | size} {
				for _, other := range []uint32{v, v ^ w.sign, w.sign | min(size+1, w.inf), min(size+1, w.inf), w.sign, w.one} {
					w.holdReal(t, "P7.1", v, other)
					w.holdReal(t, "P7.1", other, v)
				}
			}
		}
	}
}

// some are Singles without a pattern, the same in each run, with many that are close to one another.
func some() []uint32 {
	var l []uint32
	v := uint32(0x9e3779b9)
	for range 20000 {
		v ^= v << 13
		v ^= v >> 17
		v ^= v << 5
		switch v >> 7 % 4 {
		case 0:
			l = append(l, v, v^1)
		case 1:
			l = append(l, v&0x807fffff, v&0xff800000)
		default:
			l = append(l, v, v^1<<31)
		}
	}
	return l
}

// P7.1: Singles are compared as the machine compares its own.
func TestSinglesAsTheMachines(t *testing.T) {
	l := some()
	for i, a := range l[1:] {
		for _, b := range []uint32{l[i], l[len(l)-1-i], a, a + 1, a ^ single.sign} {
			x, y := math.Float32frombits(a), math.Float32frombits(b)
			want := compared{ok: x == x && y == y}
			switch {
			case x < y:
				want.c = -1
			case x > y:
				want.c = 1
			}
			single.holdCompare(t, "P7.1", a, b, want)
			if want.ok {
				single.holdReal(t, "P7.1", a, b)
			}
		}
	}
}

// P7.2: keys that are written out, NaNs' too.
func TestKeyRows(t *testing.T) {
	for _, r := range []struct {
		f    int
		v    uint32
		want int64
	}{
		{api.Single, 0, 0},
		{api.Single, 0x80000000, -1},
		{api.Single, 1, 1},
		{api.Single, 0x80000001, -2},
		{api.Single, 0x3f800000, 1065353216},
		{api.Single, 0xbf800000, -1065353217},
		{api.Single, 0x7f7fffff, 2139095039},
		{api.Single, 0x7f800000, 2139095040},
		{api.Single, 0xff800000, -2139095041},
		{api.Single, 0x7fc00000, 0x7fc00000},
		{api.Single, 0xff800001, -0x7f800002},
		{api.Single, 0x7fffffff, 0x7fffffff},
		{api.Single, 0xffffffff, -0x80000000},
		{api.Half, 0, 0},
		{api.Half, 0x8000, -1},
		{api.Half, 0xffff0000, 0},
		{api.Half, 0x7fff8000, -1},
		{api.Half, 0x3c00, 15360},
		{api.Half, 0xbc00, -15361},
		{api.Half, 0xabcd7c00, 31744},
		{api.Half, 0xabcdfc00, -31745},
		{api.Half, 0xfe00, -0x7e01},
		{api.Half, 0xffffffff, -0x8000},
		{api.Brain, 0x8000, -1},
		{api.Brain, 0x3f80, 16256},
		{api.Brain, 0xbf80, -16257},
		{api.Brain, 0x1234ff80, -32641},
		{api.Brain, 0x7fc0, 0x7fc0},
		{3, 0x80000000, -1},
		{-1, 0x3f800000, 1065353216},
		{math.MinInt, 0xff800000, -2139095041},
		{math.MaxInt, 0x8000, 0x8000},
	} {
		if got := Key(r.f, r.v); got != r.want {
			t.Errorf("P7.2: Key(%d, %#x) is %d, not %d", r.f, r.v, got, r.want)
		}
	}
}

// P7.2: the lesser number has the lesser Key, the nought with a sign too, whatever bits are above.
func TestKeysOfTheLadder(t *testing.T) {
	for _, w := range layouts() {
		l := w.ladder()
		for i, a := range l {
			for k, b := range l {
				for _, x := range w.above() {
					for _, y := range w.above() {
						p, q := Key(w.f, a|x), Key(w.f, b|y)
						if (p < q) != (i < k) || (p == q) != (i == k) {
							t.Fatalf("P7.2: %s (%d): Key of %#x is %d, of %#x %d", w.name, w.f, a|x, p, b|y, q)
						}
					}
				}
			}
		}
	}
}

// P7.2: from the infinity below up each number of 16 bits has the next Key.
func TestKeysOfEveryNumberOfSixteenBits(t *testing.T) {
	for _, w := range []layout{half, brain} {
		want := -1 - int64(w.inf)
		for size := int64(w.inf); size >= 0; size-- {
			w.holdKey(t, w.sign|uint32(size), want)
			want++
		}
		for size := range w.inf + 1 {
			w.holdKey(t, size, want)
			want++
		}
	}
}

// holdKey asks for v's Key, with bits above the format's and without.
func (w layout) holdKey(t *testing.T, v uint32, want int64) {
	t.Helper()
	for _, more := range w.above() {
		if got := Key(w.f, v|more); got != want {
			t.Fatalf("P7.2: %s: Key of %#x is %d, not %d", w.name, v|more, got, want)
		}
	}
}

// P7.2: the keys of Singles are in the order of the machine's own.
func TestKeysOfSingles(t *testing.T) {
	l := some()
	for i, a := range l[1:] {
		x, y := float64(math.Float32frombits(a)), float64(math.Float32frombits(l[i]))
		p, q := Key(single.f, a), Key(single.f, l[i])
		if x < y && p >= q || x > y && p <= q || x == y && x != 0 && p != q {
			t.Fatalf("P7.2: Key of %#x is %d, of %#x %d", a, p, l[i], q)
		}
	}
}

// P7.3: bits without a sign are in the numbers' order, those with one in the other.
func TestBitsAreInOrder(t *testing.T) {
	for _, w := range layouts() {
		l := w.sizes()
		for i, a := range l {
			for k, b := range l {
				if i == k {
					continue
				}
				if Less(w.f, a, b) != (a < b) || Less(w.f, w.sign|a, w.sign|b) != (a > b) {
					t.Fatalf("P7.3: %s (%d): %#x, %#x aren't in the order of their bits", w.name, w.f, a, b)
				}
				if !Less(w.f, w.sign|a, b) || Less(w.f, b, w.sign|a) {
					t.Fatalf("P7.3: %s (%d): %#x isn't below %#x", w.name, w.f, w.sign|a, b)
				}
			}
		}
	}
}

// P7.3: Compare is Key's order, but for the noughts; Min and Max are a and b in it.
func TestCompareAndKeyAgree(t *testing.T) {
	for _, w := range layouts() {
		for _, a := range w.ladder() {
			for _, b := range w.ladder() {
				p, q := Key(w.f, a), Key(w.f, b)
				c, _ := Compare(w.f, a, b)
				noughts := (a|b)&^w.sign == 0
				if c < 0 != (p < q && !noughts) || c > 0 != (p > q && !noughts) {
					t.Fatalf("P7.3: %s (%d): Compare of %#x, %#x is %d, their keys are %d, %d", w.name, w.f, a, b, c, p, q)
				}
				if Key(w.f, Min(w.f, a, b)) != min(p, q) || Key(w.f, Max(w.f, a, b)) != max(p, q) {
					t.Fatalf("P7.3: %s (%d): Min, Max of %#x, %#x aren't those of their keys", w.name, w.f, a, b)
				}
			}
		}
	}
}
