package conv

import (
	"math"
	"testing"

	"anneal/api"
)

// holdBecome holds a number's To in each mode against what the document says of it.
func holdBecome(t *testing.T, from, to layout, a uint32) {
	t.Helper()
	for _, mode := range modes() {
		hold(t, "P9.1", from, to, mode, a, from.becomes(to, mode, a))
	}
}

// P9.1: rows that are written out, in NearEven, ToZero, Up, Down, NearAway.
func TestRows(t *testing.T) {
	for _, r := range []struct {
		from, to layout
		a        uint32
		want     [5]uint32
		x        api.Exc
	}{
		{single, half, 0x3f800000, [5]uint32{0x3c00, 0x3c00, 0x3c00, 0x3c00, 0x3c00}, none},
		{single, half, 0xc2f6e000, [5]uint32{0xd7b7, 0xd7b7, 0xd7b7, 0xd7b7, 0xd7b7}, none},
		{single, half, 0x3f800001, [5]uint32{0x3c00, 0x3c00, 0x3c01, 0x3c00, 0x3c00}, inexact},
		{single, half, 0x3f800fff, [5]uint32{0x3c00, 0x3c00, 0x3c01, 0x3c00, 0x3c00}, inexact},
		{single, half, 0x3f801000, [5]uint32{0x3c00, 0x3c00, 0x3c01, 0x3c00, 0x3c01}, inexact},
		{single, half, 0x3f801001, [5]uint32{0x3c01, 0x3c00, 0x3c01, 0x3c00, 0x3c01}, inexact},
		{single, half, 0xbf803000, [5]uint32{0xbc02, 0xbc01, 0xbc01, 0xbc02, 0xbc02}, inexact},
		{single, half, 0x3f801800, [5]uint32{0x3c01, 0x3c00, 0x3c01, 0x3c00, 0x3c01}, inexact},
		{single, half, 0x3ffff000, [5]uint32{0x4000, 0x3fff, 0x4000, 0x3fff, 0x4000}, inexact},
		{single, half, 0x477fe000, [5]uint32{0x7bff, 0x7bff, 0x7bff, 0x7bff, 0x7bff}, none},
		{single, half, 0x38800000, [5]uint32{0x0400, 0x0400, 0x0400, 0x0400, 0x0400}, none},
		{single, half, 0x387fffff, [5]uint32{0x0400, 0x03ff, 0x0400, 0x03ff, 0x0400}, under},
		{single, half, 0x387fe000, [5]uint32{0x0400, 0x03ff, 0x0400, 0x03ff, 0x0400}, under},
		{single, half, 0x387fc000, [5]uint32{0x03ff, 0x03ff, 0x03ff, 0x03ff, 0x03ff}, none},
		{single, half, 0xb3c00000, [5]uint32{0x8002, 0x8001, 0x8001, 0x8002, 0x8002}, under},
		{single, half, 0x33800000, [5]uint32{0x0001, 0x0001, 0x0001, 0x0001, 0x0001}, none},
		{single, half, 0x33000001, [5]uint32{0x0001, 0x0000, 0x0001, 0x0000, 0x0001}, under},
		{single, half, 0x33000000, [5]uint32{0x0000, 0x0000, 0x0001, 0x0000, 0x0001}, under},
		{single, half, 0x32ffffff, [5]uint32{0x0000, 0x0000, 0x0001, 0x0000, 0x0000}, under},
		{single, half, 0x80000001, [5]uint32{0x8000, 0x8000, 0x8000, 0x8001, 0x8000}, under},
		{single, brain, 0x3f807fff, [5]uint32{0x3f80, 0x3f80, 0x3f81, 0x3f80, 0x3f80}, inexact},
		{single, brain, 0x3f808000, [5]uint32{0x3f80, 0x3f80, 0x3f81, 0x3f80, 0x3f81}, inexact},
		{single, brain, 0xbf818000, [5]uint32{0xbf82, 0xbf81, 0xbf81, 0xbf82, 0xbf82}, inexact},
		{single, brain, 0x40490fdb, [5]uint32{0x4049, 0x4049, 0x404a, 0x4049, 0x4049}, inexact},
		{single, brain, 0x7f7f0000, [5]uint32{0x7f7f, 0x7f7f, 0x7f7f, 0x7f7f, 0x7f7f}, none},
		{single, brain, 0x00010000, [5]uint32{0x0001, 0x0001, 0x0001, 0x0001, 0x0001}, none},
		{single, brain, 0x00008000, [5]uint32{0x0000, 0x0000, 0x0001, 0x0000, 0x0001}, under},
		{single, brain, 0x80000001, [5]uint32{0x8000, 0x8000, 0x8000, 0x8001, 0x8000}, under},
		{single, brain, 0x007fffff, [5]uint32{0x0080, 0x007f, 0x0080, 0x007f, 0x0080}, under},
		{half, brain, 0x3c00, [5]uint32{0x3f80, 0x3f80, 0x3f80, 0x3f80, 0x3f80}, none},
		{half, brain, 0x3c04, [5]uint32{0x3f80, 0x3f80, 0x3f81, 0x3f80, 0x3f81}, inexact},
		{half, brain, 0xbc0c, [5]uint32{0xbf82, 0xbf81, 0xbf81, 0xbf82, 0xbf82}, inexact},
		{half, brain, 0x7bff, [5]uint32{0x4780, 0x477f, 0x4780, 0x477f, 0x4780}, inexact},
		{half, brain, 0x0001, [5]uint32{0x3380, 0x3380, 0x3380, 0x3380, 0x3380}, none},
		{half, brain, 0x83ff, [5]uint32{0xb880, 0xb87f, 0xb87f, 0xb880, 0xb880}, inexact},
		{brain, half, 0x3f80, [5]uint32{0x3c00, 0x3c00, 0x3c00, 0x3c00, 0x3c00}, none},
		{brain, half, 0xc2f7, [5]uint32{0xd7b8, 0xd7b8, 0xd7b8, 0xd7b8, 0xd7b8}, none},
		{brain, half, 0x477f, [5]uint32{0x7bf8, 0x7bf8, 0x7bf8, 0x7bf8, 0x7bf8}, none},
		{brain, half, 0x3380, [5]uint32{0x0001, 0x0001, 0x0001, 0x0001, 0x0001}, none},
		{brain, half, 0x33c0, [5]uint32{0x0002, 0x0001, 0x0002, 0x0001, 0x0002}, under},
		{brain, half, 0x8001, [5]uint32{0x8000, 0x8000, 0x8000, 0x8001, 0x8000}, under},
		{half, single, 0x3555, [5]uint32{0x3eaaa000, 0x3eaaa000, 0x3eaaa000, 0x3eaaa000, 0x3eaaa000}, none},
		{half, single, 0x8001, [5]uint32{0xb3800000, 0xb3800000, 0xb3800000, 0xb3800000, 0xb3800000}, none},
		{half, single, 0x03ff, [5]uint32{0x387fc000, 0x387fc000, 0x387fc000, 0x387fc000, 0x387fc000}, none},
		{half, single, 0x7bff, [5]uint32{0x477fe000, 0x477fe000, 0x477fe000, 0x477fe000, 0x477fe000}, none},
		{brain, single, 0xbf81, [5]uint32{0xbf810000, 0xbf810000, 0xbf810000, 0xbf810000, 0xbf810000}, none},
		{brain, single, 0x0001, [5]uint32{0x00010000, 0x00010000, 0x00010000, 0x00010000, 0x00010000}, none},
	} {
		for mode, want := range r.want {
			hold(t, "P9.1", r.from, r.to, mode, r.a, answer{want, r.x})
		}
	}
}

// P9.1: what is above the other format's Greatest, which some modes alone go beyond, in NearEven, ToZero, Up, Down, NearAway.
func TestRowsAboveTheGreatest(t *testing.T) {
	for _, r := range []struct {
		from, to layout
		a        uint32
		want     [5]uint32
		overs    [5]bool
	}{
		{single, half, 0x477fe001, [5]uint32{0x7bff, 0x7bff, 0x7c00, 0x7bff, 0x7bff}, [5]bool{false, false, true, false, false}},
		{single, half, 0x477fefff, [5]uint32{0x7bff, 0x7bff, 0x7c00, 0x7bff, 0x7bff}, [5]bool{false, false, true, false, false}},
		{single, half, 0x477ff000, [5]uint32{0x7c00, 0x7bff, 0x7c00, 0x7bff, 0x7c00}, [5]bool{true, false, true, false, true}},
		{single, half, 0xc77ff000, [5]uint32{0xfc00, 0xfbff, 0xfbff, 0xfc00, 0xfc00}, [5]bool{true, false, false, true, true}},
		{single, half, 0x47800000, [5]uint32{0x7c00, 0x7bff, 0x7c00, 0x7bff, 0x7c00}, [5]bool{true, true, true, true, true}},
		{single, half, 0xff7fffff, [5]uint32{0xfc00, 0xfbff, 0xfbff, 0xfc00, 0xfc00}, [5]bool{true, true, true, true, true}},
		{single, brain, 0x7f7f7fff, [5]uint32{0x7f7f, 0x7f7f, 0x7f80, 0x7f7f, 0x7f7f}, [5]bool{false, false, true, false, false}},
		{single, brain, 0x7f7f8000, [5]uint32{0x7f80, 0x7f7f, 0x7f80, 0x7f7f, 0x7f80}, [5]bool{true, false, true, false, true}},
		{single, brain, 0xff7fffff, [5]uint32{0xff80, 0xff7f, 0xff7f, 0xff80, 0xff80}, [5]bool{true, false, false, true, true}},
		{brain, half, 0x4780, [5]uint32{0x7c00, 0x7bff, 0x7c00, 0x7bff, 0x7c00}, [5]bool{true, true, true, true, true}},
		{brain, half, 0xff7f, [5]uint32{0xfc00, 0xfbff, 0xfbff, 0xfc00, 0xfc00}, [5]bool{true, true, true, true, true}},
	} {
		for mode, want := range r.want {
			hold(t, "P9.1", r.from, r.to, mode, r.a, answer{want, api.Exc{Over: r.overs[mode], Inexact: true}})
		}
	}
}

// P9.1: noughts and infinities keep their signs, from each format to each one, in each mode.
func TestNoughtsAndInfinities(t *testing.T) {
	for _, from := range layouts() {
		for _, to := range layouts() {
			for _, mode := range modes() {
				hold(t, "P9.1", from, to, mode, 0, answer{0, none})
				hold(t, "P9.1", from, to, mode, from.sign, answer{to.sign, none})
				hold(t, "P9.1", from, to, mode, from.inf, answer{to.inf, none})
				hold(t, "P9.1", from, to, mode, from.sign|from.inf, answer{to.sign | to.inf, none})
			}
		}
	}
}

// P9.1: each NaN is the plain one of the other format, Invalid of a Signal one.
func TestNans(t *testing.T) {
	for _, from := range layouts() {
		quiets, signals := from.nans()
		for _, to := range layouts() {
			for _, mode := range modes() {
				for _, a := range quiets {
					hold(t, "P9.1", from, to, mode, a, answer{to.quiet, none})
				}
				for _, a := range signals {
					hold(t, "P9.1", from, to, mode, a, answer{to.quiet, invalid})
				}
			}
		}
	}
}

// P9.1: all bits of the formats of 16, and a wider one's edges, to each format in each mode.
func TestEveryNumber(t *testing.T) {
	for _, from := range formats() {
		for _, to := range formats() {
			for _, a := range from.patterns() {
				holdBecome(t, from, to, a)
			}
		}
	}
}

// P9.1: what is no format counts as Single, on either side.
func TestNoFormats(t *testing.T) {
	for _, from := range layouts() {
		for _, to := range layouts() {
			for i, a := range append(from.edges(), from.without(500)...) {
				if i%7 == 0 || from.frac == 7 {
					holdBecome(t, from, to, a)
					holdBecome(t, from, to, from.sign|a)
				}
			}
		}
	}
}

// P9.1: each number of 16 bits, as a Single, what lies halfway to the next one,
// and the Singles just beside both; above the Greatest the next one is what would be there.
func TestSinglesBetweenNumbers(t *testing.T) {
	for _, to := range []layout{half, brain} {
		for v := range to.inf {
			at := to.number(v).size
			unit := math.Ldexp(1, max(int(v>>to.frac)-1, 0)-to.low)
			for _, x := range []float64{at, at + unit/2} {
				a := math.Float32bits(float32(x))
				if float64(math.Float32frombits(a)) != x {
					t.Fatalf("%s: no Single is %v", to.name, x)
				}
				for _, beside := range []uint32{max(a, 1) - 1, a, a + 1} {
					holdBecome(t, single, to, beside)
					holdBecome(t, single, to, single.sign|beside)
				}
			}
		}
	}
}

// P9.1: to its own format each number is itself, without bits above the format's.
func TestToItself(t *testing.T) {
	for _, w := range layouts() {
		for _, a := range w.patterns() {
			if a&w.inf == w.inf {
				continue // what isn't finite is apart
			}
			for _, mode := range modes() {
				hold(t, "P9.1", w, w, mode, a, answer{a, none})
			}
		}
	}
}
