package conv

import (
	"math"
	"testing"
)

// P9.1: rows that are written out; the first one is the chapter's example.
func TestWidenRows(t *testing.T) {
	for _, r := range []struct {
		w       layout
		a, want uint32
	}{
		{brain, 0x3f80, 0x3f800000},
		{brain, 0xbf81, 0xbf810000},
		{brain, 0x0000, 0x00000000},
		{brain, 0x8000, 0x80000000},
		{brain, 0x0001, 0x00010000},
		{brain, 0x807f, 0x807f0000},
		{brain, 0x0080, 0x00800000},
		{brain, 0x7f7f, 0x7f7f0000},
		{brain, 0x7f80, 0x7f800000},
		{brain, 0xff80, 0xff800000},
		{brain, 0x7f81, 0x7fc00000},
		{brain, 0xff81, 0x7fc00000},
		{brain, 0x7fc0, 0x7fc00000},
		{brain, 0xffc1, 0x7fc00000},
		{half, 0x3c00, 0x3f800000},
		{half, 0xc248, 0xc0490000},
		{half, 0x0000, 0x00000000},
		{half, 0x8000, 0x80000000},
		{half, 0x0001, 0x33800000},
		{half, 0x8003, 0xb4400000},
		{half, 0x03ff, 0x387fc000},
		{half, 0x0400, 0x38800000},
		{half, 0xfbff, 0xc77fe000},
		{half, 0x7c00, 0x7f800000},
		{half, 0xfc00, 0xff800000},
		{half, 0x7c01, 0x7fc00000},
		{half, 0xfe01, 0x7fc00000},
		{single, 0x3f800001, 0x3f800001},
		{single, 0x80000001, 0x80000001},
		{single, 0xff800000, 0xff800000},
		{single, 0x7f800001, 0x7fc00000},
		{single, 0xffffffff, 0x7fc00000},
	} {
		r.w.holdWiden(t, "P9.1", r.a, r.want)
	}
}

// P9.1: rows that are written out: to the nearest, of two the even one.
func TestNarrowRows(t *testing.T) {
	for _, r := range []struct {
		w       layout
		a, want uint32
	}{
		{brain, 0x3f800000, 0x3f80},
		{brain, 0x3f808000, 0x3f80},
		{brain, 0x3f808001, 0x3f81},
		{brain, 0xbf818000, 0xbf82},
		{brain, 0x80000000, 0x8000},
		{brain, 0x00008000, 0x0000},
		{brain, 0x80008001, 0x8001},
		{brain, 0x7f7f7fff, 0x7f7f},
		{brain, 0x7f7f8000, 0x7f80},
		{brain, 0xff800000, 0xff80},
		{brain, 0xff800001, 0x7fc0},
		{brain, 0x7fffffff, 0x7fc0},
		{half, 0x3f800000, 0x3c00},
		{half, 0x3f801000, 0x3c00},
		{half, 0x3f801001, 0x3c01},
		{half, 0xbf803000, 0xbc02},
		{half, 0x80000000, 0x8000},
		{half, 0x33000000, 0x0000},
		{half, 0xb3000001, 0x8001},
		{half, 0x387fe000, 0x0400},
		{half, 0x477fefff, 0x7bff},
		{half, 0xc77ff000, 0xfc00},
		{half, 0x7f800000, 0x7c00},
		{half, 0x7f800001, 0x7e00},
		{half, 0xffc00000, 0x7e00},
		{single, 0xc0490fdb, 0xc0490fdb},
		{single, 0x7f800000, 0x7f800000},
		{single, 0xff800001, 0x7fc00000},
	} {
		r.w.holdNarrow(t, "P9.1", r.a, r.want)
	}
}

// P9.1: Widen and Narrow are To by the nearest, to Single and from it.
func TestWidenAndNarrowAreTo(t *testing.T) {
	for _, w := range layouts() {
		for _, a := range w.patterns() {
			want, _ := To(w.f, single.f, 0, a)
			w.holdWiden(t, "P9.1", a, want)
		}
		for _, a := range single.patterns() {
			want, _ := To(single.f, w.f, 0, a)
			w.holdNarrow(t, "P9.1", a, want)
		}
	}
}

// P9.1: a widened number is the same one, as the machine's floats tell it.
func TestWidenAsTheMachines(t *testing.T) {
	for _, w := range layouts() {
		for _, a := range w.patterns() {
			if a&w.inf == w.inf {
				continue // what isn't finite is apart
			}
			n := w.number(a)
			x := float32(n.size)
			if n.neg {
				x = -x // of nought as well
			}
			if float64(x) != math.Copysign(n.size, float64(x)) || math.Signbit(float64(x)) != n.neg {
				t.Fatalf("%s (%d): no Single is %#x", w.name, w.f, a)
			}
			w.holdWiden(t, "P9.1", a, math.Float32bits(x))
		}
	}
}

// P9.2: what is widened is narrowed to itself: its bits, but a NaN the plain one.
func TestWidenedIsNarrowedToItself(t *testing.T) {
	for _, w := range layouts() {
		for _, a := range w.patterns() {
			want := a
			if a&^w.sign > w.inf {
				want = w.quiet
			}
			for _, more := range w.above() {
				w.holdNarrow(t, "P9.2", Widen(w.f, a|more), want)
			}
		}
	}
}

// P9.2: from each format to a wider one and back, whatever the modes are, nothing is lost.
func TestThereAndBack(t *testing.T) {
	for _, w := range formats() {
		for _, a := range w.edges() {
			for _, mode := range modes() {
				for _, v := range []uint32{a, w.sign | a} {
					wide, x := To(w.f, single.f, mode, v)
					if x != none {
						t.Fatalf("P9.2: To from %s to Single in mode %d of %#x tells %+v", w.name, mode, v, x)
					}
					for _, back := range modes() {
						hold(t, "P9.2", single, w, back, wide, answer{v, none})
					}
				}
			}
		}
	}
}
