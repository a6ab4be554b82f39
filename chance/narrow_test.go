package chance

import (
	"testing"

	"anneal/conv"
)

// row is a Single that is written out: its neighbours in a format, and how many words make the upper one.
type row struct {
	w                      layout
	a, lower, upper, often uint32
}

// rows are at the edges of the formats, and between them.
func rows() []row {
	return []row{
		{half, 0x3f800001, 0x3c00, 0x3c01, 0x00080000}, // just above 1
		{half, 0x3f800800, 0x3c00, 0x3c01, 0x40000000},
		{half, 0x3f801000, 0x3c00, 0x3c01, 0x80000000},
		{half, 0x3f801fff, 0x3c00, 0x3c01, 0xfff80000},
		{half, 0x3f802000, 0x3c01, 0x3c02, 0},
		{half, 0x40490fdb, 0x4248, 0x4249, 0x7ed80000}, // pi
		{half, 0x3fffffff, 0x3fff, 0x4000, 0xfff80000}, // just below 2, where the unit doubles
		{half, 0x40000001, 0x4000, 0x4001, 0x00080000},
		{half, 0x38800001, 0x0400, 0x0401, 0x00080000}, // the least normal one
		{half, 0x387fffff, 0x03ff, 0x0400, 0xfffc0000},
		{half, 0x387fe000, 0x03ff, 0x0400, 0x80000000},
		{half, 0x387fc001, 0x03ff, 0x0400, 0x00040000},
		{half, 0x387fc000, 0x03ff, 0x0400, 0},
		{half, 0x33ffffff, 0x0001, 0x0002, 0xfffffe00},
		{half, 0x33c00000, 0x0001, 0x0002, 0x80000000},
		{half, 0x33800001, 0x0001, 0x0002, 0x00000200},
		{half, 0x33800000, 0x0001, 0x0002, 0}, // the least one
		{half, 0x337fffff, 0x0000, 0x0001, 0xffffff00},
		{half, 0x33000000, 0x0000, 0x0001, 0x80000000},
		{half, 0x32ffffff, 0x0000, 0x0001, 0x7fffff80},
		{half, 0x24400000, 0x0000, 0x0001, 3},
		{half, 0x247fffff, 0x0000, 0x0001, 3},
		{half, 0x24000000, 0x0000, 0x0001, 2},
		{half, 0x23ffffff, 0x0000, 0x0001, 1},
		{half, 0x23800000, 0x0000, 0x0001, 1},
		{half, 0x237fffff, 0x0000, 0x0001, 0}, // less than one word out of all
		{half, 0x00800000, 0x0000, 0x0001, 0},
		{half, 0x007fffff, 0x0000, 0x0001, 0},
		{half, 0x00000001, 0x0000, 0x0001, 0},
		{half, 0x477fdfff, 0x7bfe, 0x7bff, 0xfff80000},
		{half, 0x477fe000, 0x7bff, 0x7c00, 0}, // the Greatest
		{half, 0x477fe001, 0x7bff, 0x7c00, 0x00080000},
		{half, 0x477ff000, 0x7bff, 0x7c00, 0x80000000},
		{half, 0x477fffff, 0x7bff, 0x7c00, 0xfff80000},
		{half, 0x47800000, 0x7c00, 0x7c00, 0}, // above it
		{half, 0x47800001, 0x7c00, 0x7c00, 0x00080000},
		{half, 0x477fefff, 0x7bff, 0x7c00, 0x7ff80000},
		{half, 0x7f7fffff, 0x7c00, 0x7c00, 0xfff80000},
		{brain, 0x3f800001, 0x3f80, 0x3f81, 0x00010000},
		{brain, 0x3f808000, 0x3f80, 0x3f81, 0x80000000},
		{brain, 0x3f80ffff, 0x3f80, 0x3f81, 0xffff0000},
		{brain, 0x3f810000, 0x3f81, 0x3f82, 0},
		{brain, 0x40490fdb, 0x4049, 0x404a, 0x0fdb0000},
		{brain, 0x3fffffff, 0x3fff, 0x4000, 0xffff0000},
		{brain, 0x00800001, 0x0080, 0x0081, 0x00010000},
		{brain, 0x007fffff, 0x007f, 0x0080, 0xffff0000},
		{brain, 0x0000ffff, 0x0000, 0x0001, 0xffff0000},
		{brain, 0x00008000, 0x0000, 0x0001, 0x80000000},
		{brain, 0x00000003, 0x0000, 0x0001, 0x00030000},
		{brain, 0x00000001, 0x0000, 0x0001, 0x00010000},
		{brain, 0x7f7effff, 0x7f7e, 0x7f7f, 0xffff0000},
		{brain, 0x7f7f0000, 0x7f7f, 0x7f80, 0},
		{brain, 0x7f7f0001, 0x7f7f, 0x7f80, 0x00010000},
		{brain, 0x7f7f8000, 0x7f7f, 0x7f80, 0x80000000},
		{brain, 0x7f7fffff, 0x7f7f, 0x7f80, 0xffff0000},
		{single, 0x3f800001, 0x3f800001, 0x3f800002, 0},
		{single, 0x00000001, 0x00000001, 0x00000002, 0},
		{single, 0x007fffff, 0x007fffff, 0x00800000, 0},
		{single, 0x7f7fffff, 0x7f7fffff, 0x7f800000, 0},
	}
}

// P11.1: rows that are written out, by each word at which the answer turns, with either sign.
func TestRows(t *testing.T) {
	for _, x := range rows() {
		for _, at := range append(wordsAt(x.often), words()...) {
			want := x.lower
			if x.often > at {
				want = x.upper
			}
			x.w.hold(t, "P11.1", x.a, at, want)
			x.w.hold(t, "P11.1", single.sign|x.a, at, x.w.sign|want)
			if told := x.w.told(x.a, at); told != want {
				t.Fatalf("the test's own %s of %#x by %#x is %#x, not %#x", x.w.name, x.a, at, told, want)
			}
		}
	}
}

// P11.1: the chapter's example: by the greatest word it is always the lower one.
func TestExample(t *testing.T) {
	for _, x := range rows() {
		x.w.hold(t, "P11.1", x.a, ones, x.lower)
	}
	for _, w := range narrow() {
		for _, a := range edges() {
			lower, _ := w.place(a)
			w.hold(t, "P11.1", a, ones, min(lower, w.inf))
			w.hold(t, "P11.1", single.sign|a, ones, w.sign|min(lower, w.inf))
		}
	}
}

// P11.1: NaNs of either kind are the plain one; infinities and noughts keep their signs; all as conv.Narrow, by each word.
func TestNansInfinitiesNoughts(t *testing.T) {
	for _, w := range layouts() {
		wants := map[uint32]uint32{0: 0, single.sign: w.sign, single.inf: w.inf, single.sign | single.inf: w.sign | w.inf}
		for _, a := range nans() {
			wants[a] = w.quiet
		}
		for a, want := range wants {
			for _, at := range words() {
				w.hold(t, "P11.1", a, at, want)
			}
			if near := conv.Narrow(w.f, a); near != want {
				t.Fatalf("P11.1: conv.Narrow to %s (%d) of %#x is %#x, not %#x", w.name, w.f, a, near, want)
			}
		}
	}
}

// P11.1: each number of 16 bits, subnormal ones and the Greatest among them, is itself by each word.
func TestNumbersOfTheFormat(t *testing.T) {
	for _, w := range narrow() {
		for v := range w.inf {
			a := conv.Widen(w.f, v)
			if w.number(v).Cmp(single.number(a)) != 0 {
				t.Fatalf("%s %#x is no Single %#x", w.name, v, a)
			}
			for _, at := range []uint32{0, 1, 0x7fffffff, 0x80000000, v * 0x9e3779b9, ones} {
				w.hold(t, "P11.1", a, at, v)
				w.hold(t, "P11.1", single.sign|a, at, w.sign|v)
			}
		}
	}
}

// P11.1: each finite Single is a number of Single, and of what is no format, by each word.
func TestSingleStays(t *testing.T) {
	c := chain(0x2545f4914f6cdd1d)
	l := edges()
	for range 5000 {
		l = append(l, c.next()%single.inf)
	}
	for _, w := range wide() {
		for _, a := range l {
			for _, at := range []uint32{0, 1, c.next(), ones} {
				w.hold(t, "P11.1", a, at, a)
				w.hold(t, "P11.1", single.sign|a, at, single.sign|a)
			}
		}
	}
}

// between are Singles from one number of a format, by its bits v, to the next one: just above, in the middle, just below, and others.
func (w layout) between(v uint32) []uint32 {
	from, to := conv.Widen(w.f, v), conv.Widen(w.f, v+1)
	if w.f == half.f && v+1 == half.inf {
		to = 0x47800000 // as if there were one above the Greatest
	}
	gap := to - from
	return []uint32{from, from + 1, from + 2, from + gap/4, from + gap/3, from + gap/2 - 1, from + gap/2, from + gap/2 + 1, from + gap/8*7 + 1, to - 2, to - 1}
}

// P11.1: what lies between each number of 16 bits and the next one, by each word at which the answer turns.
func TestBetweenNeighbours(t *testing.T) {
	for _, w := range narrow() {
		for v := range w.inf {
			from, to := w.number(v), w.number(v+1)
			for _, a := range w.between(v) {
				if r := single.number(a); r.Cmp(from) < 0 || r.Cmp(to) >= 0 {
					t.Fatalf("%s: %#x isn't between %#x and the next one", w.name, a, v)
				}
				often := w.often(a, v)
				w.holdBoth(t, "P11.1", a, v, often, wordsAt(often))
			}
		}
	}
}

// P11.1: Singles at the edges of each exponent, those far below the least number and far above the Greatest too.
func TestEachExponent(t *testing.T) {
	for _, w := range layouts() {
		for _, a := range edges() {
			lower, often := w.place(a)
			w.holdBoth(t, "P11.1", a, lower, often, wordsAt(often))
		}
	}
}

// P11.1: below a Half's least number, each word that makes it is counted.
func TestFewWordsOfTheLeast(t *testing.T) {
	for often := range uint32(300) {
		for _, a := range fewWords(often) {
			if lower, words := half.place(a); lower != 0 || words != often {
				t.Fatalf("%#x has %d words above %#x, not %d", a, words, lower, often)
			}
			var few []uint32
			for at := range often + 3 {
				few = append(few, at)
			}
			half.holdBoth(t, "P11.1", a, 0, often, few)
		}
	}
}

// fewWords are the least and the greatest Single of which so many words make a Half's least number.
func fewWords(often uint32) []uint32 {
	const one = 0x23800000 // 2^-56: one word of 2^32
	bits := func(n uint32) uint32 {
		if n == 0 {
			return 1
		}
		up := uint32(0)
		for n>>up > 1 {
			up++
		}
		return one + up<<23 + n<<(23-up) - 1<<23
	}
	return []uint32{bits(often), bits(often+1) - 1}
}

// P11.1: above the multiple that is just above the Greatest there is Inf, by each word.
func TestBeyondTheGreatest(t *testing.T) {
	c := chain(0xd1342543de82ef95)
	l := []uint32{0x47800000, 0x47800001, 0x47801000, 0x47802000, 0x47ffffff, 0x48000000, 0x7f000000, 0x7f7fffff}
	for range 2000 {
		l = append(l, 0x47800000+c.next()%(single.inf-0x47800000))
	}
	for _, a := range l {
		for _, at := range []uint32{0, 1, 1 << 31, c.next(), ones} {
			half.hold(t, "P11.1", a, at, half.inf)
			half.hold(t, "P11.1", single.sign|a, at, half.sign|half.inf)
		}
	}
}

// P11.1: Singles and words without a pattern.
func TestWithoutPattern(t *testing.T) {
	c := chain(0x9e3779b97f4a7c15)
	for range 20000 {
		a, at := c.next(), c.next()
		inHalf := a&0x807fffff | (95+c.next()%50)<<23 // an exponent where Halves are
		for _, w := range layouts()[:4] {
			w.hold(t, "P11.1", a, at, w.told(a, at))
			w.hold(t, "P11.1", inHalf, at, w.told(inHalf, at))
		}
	}
}
