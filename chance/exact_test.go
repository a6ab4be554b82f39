package chance

import (
	"math"
	"math/big"
	"sort"
	"testing"

	"anneal/api"
)

// ones is the greatest word.
const ones = math.MaxUint32

// least is the power of 2, without its sign, of which each Single is a multiple.
const least = 149

// layout is what IEEE 754 (and the document, of Brain) says of a format, written
// out; the least number is 2 to -low.
type layout struct {
	name             string
	f, frac, low     int
	sign, inf, quiet uint32
}

var half = layout{name: "Half", f: api.Half, frac: 10, low: 24, sign: 0x8000, inf: 0x7c00, quiet: 0x7e00}

var brain = layout{name: "Brain", f: api.Brain, frac: 7, low: 133, sign: 0x8000, inf: 0x7f80, quiet: 0x7fc0}

var single = layout{name: "Single", f: api.Single, frac: 23, low: least, sign: 0x80000000, inf: 0x7f800000, quiet: 0x7fc00000}

// narrow are the formats that not each Single is a number of.
func narrow() []layout { return []layout{half, brain} }

// wide are Single, and numbers that are no format's, which count as it.
func wide() []layout {
	l := []layout{single}
	for _, f := range []int{-1, 3, 4, 255, 1 << 32, math.MaxInt, math.MinInt} {
		other := single
		other.name, other.f = "no format", f
		l = append(l, other)
	}
	return l
}

// layouts are all of them.
func layouts() []layout { return append(narrow(), wide()...) }

// number is what the bits v stand for, in 2^-149ths, if exponents had no end.
func (w layout) number(v uint32) *big.Int {
	step, up := uint32(1)<<w.frac, uint(least-w.low)
	if v >= step {
		up += uint(v/step) - 1
		v = step + v%step
	}
	return new(big.Int).Lsh(big.NewInt(int64(v)), up)
}

// place is the lower one of a finite Single's neighbours, found by halving, and
// how many words out of all make the upper one; a has no sign.
func (w layout) place(a uint32) (uint32, uint32) {
	r := single.number(a)
	beyond := (128 + w.low - w.frac + 1) << w.frac // 2^128, above each Single
	lower := uint32(sort.Search(beyond, func(v int) bool { return w.number(uint32(v)).Cmp(r) > 0 }) - 1)
	return lower, w.often(a, lower)
}

// often is how many words out of all make the upper neighbour of the Single a, by the lower one.
func (w layout) often(a, lower uint32) uint32 {
	unit := new(big.Int).Sub(w.number(lower+1), w.number(lower))
	above := new(big.Int).Sub(single.number(a), w.number(lower))
	return uint32(above.Lsh(above, 32).Div(above, unit).Uint64())
}

// signed gives the bits v the sign that the Single a has.
func (w layout) signed(v, a uint32) uint32 {
	if a&single.sign != 0 {
		return v | w.sign
	}
	return v
}

// told is what the document says of the Single a, by the word at.
func (w layout) told(a, at uint32) uint32 {
	size := a &^ single.sign
	switch {
	case size > single.inf:
		return w.quiet
	case size == single.inf:
		return w.signed(w.inf, a)
	}
	v, often := w.place(size)
	if often > at {
		v++
	}
	return w.signed(min(v, w.inf), a)
}

// hold asks Narrow and holds its answer against the one that is wanted.
func (w layout) hold(t *testing.T, promise string, a, at, want uint32) {
	t.Helper()
	if got := Narrow(w.f, a, at); got != want {
		t.Fatalf("%s: Narrow to %s (%d) of %#x by %#x is %#x, not %#x", promise, w.name, w.f, a, at, got, want)
	}
}

// holdBoth holds Narrow of the Single a, which has no sign, by the words, with
// either sign: it is the upper one by those below often, else the lower one.
func (w layout) holdBoth(t *testing.T, promise string, a, lower, often uint32, words []uint32) {
	t.Helper()
	for _, at := range words {
		want := lower
		if often > at {
			want++
		}
		want = min(want, w.inf)
		w.hold(t, promise, a, at, want)
		w.hold(t, promise, single.sign|a, at, w.sign|want)
	}
}

// wordsAt are words at both ends, in the middle, and just beside one (round 2^32).
func wordsAt(at uint32) []uint32 {
	return []uint32{0, 1, at - 2, at - 1, at, at + 1, at ^ 1<<31, 1<<31 - 1, 1 << 31, ones - 1, ones}
}

// chain is numbers without a pattern, the same in each run.
type chain uint64

// next tells one more of them.
func (c *chain) next() uint32 {
	*c ^= *c << 13
	*c ^= *c >> 7
	*c ^= *c << 17
	return uint32(*c >> 32)
}

// words are words at the ends, with few and with most bits set, and some without a pattern.
func words() []uint32 {
	l := []uint32{0, ones}
	for n := range 32 {
		l = append(l, 1<<n, ^uint32(1<<n), 1<<n-1)
	}
	c := chain(0x9e3779b97f4a7c15)
	for range 30 {
		l = append(l, c.next())
	}
	return l
}

// nans are a Single's NaNs of either kind, with either sign.
func nans() []uint32 {
	var l []uint32
	for _, frac := range []uint32{1, 2, 1 << 13, 1 << 16, 1<<22 - 1, 1 << 22, 1<<22 | 1, 1<<22 | 1<<16, 1<<23 - 1} {
		l = append(l, single.inf|frac, single.sign|single.inf|frac)
	}
	return l
}

// edges are finite Singles without a sign, at each exponent: few, half, and all of the fraction's steps.
func edges() []uint32 {
	const step = 1 << 23
	var l []uint32
	for from := uint32(0); from < single.inf; from += step {
		l = append(l, from, from+1, from+2, from+step/2-1, from+step/2, from+step/2+1, from+step-2, from+step-1)
	}
	return l
}
