package format

import (
	"math"
	"testing"

	"anneal/api"
)

// layout is what IEEE 754 (and the document, of Brain) says of a format, written out.
type layout struct {
	name                       string
	f, exp, frac               int
	mask, neg, inf, great, nan uint32
	leastNormal                uint32
	unit                       int // the least number is 2 to it
}

var half = layout{name: "Half", f: api.Half, exp: 5, frac: 10, mask: 0xffff, neg: 0x8000, inf: 0x7c00, great: 0x7bff, nan: 0x7e00, leastNormal: 0x0400, unit: -24}

var brain = layout{name: "Brain", f: api.Brain, exp: 8, frac: 7, mask: 0xffff, neg: 0x8000, inf: 0x7f80, great: 0x7f7f, nan: 0x7fc0, leastNormal: 0x0080, unit: -133}

var single = layout{name: "Single", f: api.Single, exp: 8, frac: 23, mask: 0xffffffff, neg: 0x80000000, inf: 0x7f800000, great: 0x7f7fffff, nan: 0x7fc00000, leastNormal: 0x00800000, unit: -149}

// layouts are the three formats, and numbers that are no format's, which count as Single.
func layouts() []layout {
	l := []layout{half, brain, single}
	for _, f := range []int{-1, -2, 3, 4, 9, 255, 256, 1 << 16, 1 << 32, -1 << 32, math.MaxInt32, math.MinInt32, math.MaxInt, math.MinInt} {
		other := single
		other.name, other.f = "no format", f
		l = append(l, other)
	}
	return l
}

// above are bits over a format's own, which say nothing.
func above(w layout) []uint32 {
	return []uint32{0, ^w.mask, 0x00010000 &^ w.mask, 0x80000000 &^ w.mask, 0xabcd0000 &^ w.mask}
}

// patterns are all bits of a format of 16, and of a wider one those at each
// edge and some without a pattern, the same in each run.
func patterns(w layout) []uint32 {
	var l []uint32
	if w.mask == 0xffff {
		for v := range uint32(1 << 16) {
			l = append(l, v)
		}
		return l
	}
	for exp := range uint32(256) {
		for _, frac := range []uint32{0, 1, 2, 0x155555, 0x3fffff, 0x400000, 0x400001, 0x7ffffe, 0x7fffff} {
			l = append(l, exp<<23|frac, 1<<31|exp<<23|frac)
		}
	}
	v := uint32(0x9e3779b9)
	for range 5000 {
		v ^= v << 13
		v ^= v >> 17
		v ^= v << 5
		l = append(l, v)
	}
	return l
}

// P2.1: a format's widths and its mask, of others than the three a Single's.
func TestWidthsAndMask(t *testing.T) {
	for _, w := range layouts() {
		if exp, frac := Widths(w.f); exp != w.exp || frac != w.frac {
			t.Errorf("P2.1: %s: Widths(%d) is %d, %d, not %d, %d", w.name, w.f, exp, frac, w.exp, w.frac)
		}
		if got := Mask(w.f); got != w.mask {
			t.Errorf("P2.1: %s: Mask(%d) is %#x, not %#x", w.name, w.f, got, w.mask)
		}
	}
}

// P2.1: Class on both sides of each edge, with either sign and with bits above the format's.
func TestClassAtEdges(t *testing.T) {
	for _, w := range layouts() {
		for v, want := range map[uint32]int{
			0:                 api.Zero,
			1:                 api.Small,
			w.leastNormal - 1: api.Small,
			w.leastNormal:     api.Normal,
			w.great:           api.Normal,
			w.inf:             api.Infinite,
			w.inf + 1:         api.Signal,
			w.nan - 1:         api.Signal,
			w.nan:             api.Quiet,
			w.nan + 1:         api.Quiet,
			w.neg - 1:         api.Quiet,
		} {
			for _, more := range above(w) {
				for _, sign := range []uint32{0, w.neg} {
					bits := v | sign | more
					if got := Class(w.f, bits); got != want {
						t.Errorf("P2.1: %s: Class(%d, %#x) is %d, not %d", w.name, w.f, bits, got, want)
					}
					if got := Finite(w.f, bits); got != (want == api.Zero || want == api.Small || want == api.Normal) {
						t.Errorf("P2.1: %s: Finite(%d, %#x) is %v", w.name, w.f, bits, got)
					}
				}
			}
		}
	}
}

// P2.1: Class and Finite of every number, by the order in which the bits lie.
func TestClassByOrder(t *testing.T) {
	for _, w := range layouts() {
		for _, v := range patterns(w) {
			want := classByOrder(w, v)
			if got := Class(w.f, v); got != want {
				t.Fatalf("P2.1: %s: Class(%d, %#x) is %d, not %d", w.name, w.f, v, got, want)
			}
			if got := Finite(w.f, v); got != (want < api.Infinite) {
				t.Fatalf("P2.1: %s: Finite(%d, %#x) is %v", w.name, w.f, v, got)
			}
		}
	}
}

// classByOrder holds the bits without their sign against the format's edges.
func classByOrder(w layout, v uint32) int {
	v %= w.neg
	switch {
	case v == 0:
		return api.Zero
	case v < w.leastNormal:
		return api.Small
	case v <= w.great:
		return api.Normal
	case v == w.inf:
		return api.Infinite
	case v < w.nan:
		return api.Signal
	}
	return api.Quiet
}

// P2.2: the numbers that have a name, with either sign.
func TestNamedNumbers(t *testing.T) {
	for _, w := range layouts() {
		for i, x := range []struct{ got, want uint32 }{
			{Zero(w.f, false), 0},
			{Zero(w.f, true), w.neg},
			{Inf(w.f, false), w.inf},
			{Inf(w.f, true), w.inf | w.neg},
			{Greatest(w.f, false), w.great},
			{Greatest(w.f, true), w.great | w.neg},
			{Nan(w.f), w.nan},
		} {
			if x.got != x.want {
				t.Errorf("P2.2: %s (%d): number %d is %#x, not %#x", w.name, w.f, i, x.got, x.want)
			}
		}
	}
}

// unpacked is what Unpack answers, as one value.
type unpacked struct {
	neg bool
	exp int
	sig uint64
}

func unpack(f int, v uint32) unpacked {
	neg, exp, sig := Unpack(f, v)
	return unpacked{neg, exp, sig}
}

// P2.2: Unpack on both sides of each edge.
func TestUnpackAtEdges(t *testing.T) {
	for _, x := range []struct {
		f    int
		v    uint32
		want unpacked
	}{
		{api.Single, 0x3f800000, unpacked{false, -23, 1 << 23}},
		{api.Single, 0xbf800000, unpacked{true, -23, 1 << 23}},
		{api.Single, 0x40490fdb, unpacked{false, -22, 0xc90fdb}},
		{api.Single, 0, unpacked{false, -149, 0}},
		{api.Single, 0x80000000, unpacked{true, -149, 0}},
		{api.Single, 1, unpacked{false, -149, 1}},
		{api.Single, 0x807fffff, unpacked{true, -149, 1<<23 - 1}},
		{api.Single, 0x00800000, unpacked{false, -149, 1 << 23}},
		{api.Single, 0x00ffffff, unpacked{false, -149, 1<<24 - 1}},
		{api.Single, 0x01000000, unpacked{false, -148, 1 << 23}},
		{api.Single, 0x7f7fffff, unpacked{false, 104, 1<<24 - 1}},
		{api.Single, 0xff7fffff, unpacked{true, 104, 1<<24 - 1}},
		{api.Half, 0x3c00, unpacked{false, -10, 1 << 10}},
		{api.Half, 0xc248, unpacked{true, -9, 0x648}},
		{api.Half, 0, unpacked{false, -24, 0}},
		{api.Half, 0x8000, unpacked{true, -24, 0}},
		{api.Half, 1, unpacked{false, -24, 1}},
		{api.Half, 0x83ff, unpacked{true, -24, 1<<10 - 1}},
		{api.Half, 0x0400, unpacked{false, -24, 1 << 10}},
		{api.Half, 0x0800, unpacked{false, -23, 1 << 10}},
		{api.Half, 0x7bff, unpacked{false, 5, 1<<11 - 1}},
		{api.Half, 0x12343c00, unpacked{false, -10, 1 << 10}},
		{api.Half, 0xffff0000, unpacked{false, -24, 0}},
		{api.Brain, 0x3f80, unpacked{false, -7, 1 << 7}},
		{api.Brain, 0xc049, unpacked{true, -6, 0xc9}},
		{api.Brain, 0, unpacked{false, -133, 0}},
		{api.Brain, 0x8000, unpacked{true, -133, 0}},
		{api.Brain, 1, unpacked{false, -133, 1}},
		{api.Brain, 0x807f, unpacked{true, -133, 1<<7 - 1}},
		{api.Brain, 0x0080, unpacked{false, -133, 1 << 7}},
		{api.Brain, 0x0100, unpacked{false, -132, 1 << 7}},
		{api.Brain, 0x7f7f, unpacked{false, 120, 1<<8 - 1}},
		{api.Brain, 0xffff3f80, unpacked{false, -7, 1 << 7}},
		{3, 0x3f800000, unpacked{false, -23, 1 << 23}},
		{-1, 0xbf800000, unpacked{true, -23, 1 << 23}},
	} {
		if got := unpack(x.f, x.v); got != x.want {
			t.Errorf("P2.2: Unpack(%d, %#x) is %v, not %v", x.f, x.v, got, x.want)
		}
	}
}

// P2.2: of what isn't finite Unpack tells the sign alone.
func TestUnpackOfOthers(t *testing.T) {
	for _, w := range layouts() {
		for _, v := range []uint32{w.inf, w.inf + 1, w.nan - 1, w.nan, w.nan + 1, w.neg - 1} {
			for _, more := range above(w) {
				if got, want := unpack(w.f, v|more), (unpacked{}); got != want {
					t.Errorf("P2.2: %s: Unpack(%d, %#x) is %v, not %v", w.name, w.f, v|more, got, want)
				}
				if got, want := unpack(w.f, v|w.neg|more), (unpacked{neg: true}); got != want {
					t.Errorf("P2.2: %s: Unpack(%d, %#x) is %v, not %v", w.name, w.f, v|w.neg|more, got, want)
				}
			}
		}
	}
}

// value is the number that the parts make.
func (u unpacked) value() float64 {
	r := math.Ldexp(float64(u.sig), u.exp)
	if u.neg {
		return -r
	}
	return r
}

// P2.2: from nought up each number of 16 bits is the one below it and a unit more; the unit
// is the least number at first, and doubles with each exponent above the least normal one's.
func TestUnpackByCounting(t *testing.T) {
	for _, w := range []layout{half, brain} {
		value, unit := 0.0, math.Ldexp(1, w.unit)
		for v := uint32(0); v <= w.great; v++ {
			if v > w.leastNormal && v%w.leastNormal == 0 {
				unit *= 2
			}
			for _, more := range above(w) {
				plus, minus := unpack(w.f, v|more), unpack(w.f, v|w.neg|more)
				if plus.neg || plus.value() != value || math.Ldexp(1, plus.exp) != unit {
					t.Fatalf("P2.2: %s: Unpack(%#x) is %v, not %v", w.name, v|more, plus, value)
				}
				if !minus.neg || minus.value() != -value || math.Ldexp(1, minus.exp) != unit {
					t.Fatalf("P2.2: %s: Unpack(%#x) is %v, not %v", w.name, v|w.neg|more, minus, -value)
				}
			}
			value += unit
		}
	}
}

// P2.2: Singles are the machine's own, and of normal ones a 1 stands ahead.
func TestUnpackOfSingles(t *testing.T) {
	for _, w := range layouts() {
		if w.mask == 0xffff {
			continue
		}
		for _, v := range patterns(w) {
			if v%w.neg > w.great {
				continue
			}
			got := unpack(w.f, v)
			if want := float64(math.Float32frombits(v)); got.value() != want || got.neg != (v >= w.neg) {
				t.Fatalf("P2.2: Unpack(%d, %#x) is %v, not %v", w.f, v, got, want)
			}
			small := v%w.neg < w.leastNormal
			if small && got.exp != w.unit || small != (got.sig < 1<<23) || got.sig >= 1<<24 {
				t.Fatalf("P2.2: Unpack(%d, %#x) is %v", w.f, v, got)
			}
		}
	}
}

// P2.3: the parts make the bits again, each number of its format its own, and no bits above it.
func TestBitsAgain(t *testing.T) {
	for _, w := range layouts() {
		for _, v := range patterns(w) {
			if !Finite(w.f, v) {
				continue
			}
			for _, more := range above(w) {
				if got := bitsOf(w, unpack(w.f, v|more)); got != v {
					t.Fatalf("P2.3: %s: Unpack(%d, %#x) is that of %#x", w.name, w.f, v|more, got)
				}
			}
		}
	}
}

// bitsOf lays the parts side by side: in the order of bits each exponent
// has as many numbers as stand below the least normal one.
func bitsOf(w layout, u unpacked) uint32 {
	v := uint32(u.exp-w.unit)*w.leastNormal + uint32(u.sig)
	if u.neg {
		v += w.neg
	}
	return v
}

// P2.3: what has a name is what its name says, and lies beside what it should.
func TestNamesAndClasses(t *testing.T) {
	for _, w := range layouts() {
		for _, neg := range []bool{false, true} {
			zero, inf, great := Zero(w.f, neg), Inf(w.f, neg), Greatest(w.f, neg)
			if Class(w.f, zero) != api.Zero || Class(w.f, inf) != api.Infinite || Class(w.f, great) != api.Normal || Class(w.f, great+1) != api.Infinite {
				t.Errorf("P2.3: %s (%d): %#x, %#x, %#x", w.name, w.f, zero, inf, great)
			}
			for _, v := range []uint32{zero, inf, great} {
				if v&^Mask(w.f) != 0 || unpack(w.f, v).neg != neg {
					t.Errorf("P2.3: %s (%d): %#x has another sign, or more bits", w.name, w.f, v)
				}
			}
		}
		nan := Nan(w.f)
		if Class(w.f, nan) != api.Quiet || Class(w.f, nan-1) != api.Signal || unpack(w.f, nan).neg || nan&^Mask(w.f) != 0 {
			t.Errorf("P2.3: %s (%d): Nan is %#x", w.name, w.f, nan)
		}
	}
}
