package kern

import (
	"slices"
	"testing"

	"anneal/api"
)

// dotRow is two lists of Singles, written out, and their Dot.
type dotRow struct {
	a, b []uint32
	want uint32
}

// holdDot holds a row, and with the lists the other way round: a product's numbers change places.
func (r dotRow) holdDot(t *testing.T) {
	t.Helper()
	for _, k := range [][2][]uint32{{r.a, r.b}, {r.b, r.a}} {
		if v, e := Dot(k[0], k[1]); v != r.want || e != api.OK {
			t.Errorf("P14.1: Dot of %#x and %#x is %#x, error %d, not %#x", k[0], k[1], v, e, r.want)
		}
	}
}

// P14.1: rows that are written out: ordinary ones.
func TestDotRows(t *testing.T) {
	for _, r := range []dotRow{
		{nil, nil, 0},
		{singles(2), singles(3), 0x40c00000},
		{singles(1, 2, 3), singles(4, 5, 6), 0x42000000},
		{singles(1, -2, 3), singles(4, 5, -6), 0xc1c00000},
		{singles(0.5, 0.25), singles(0.5, -1), 0},
		{singles(1.5, 2.5, -3.5, 4.5), singles(-1, 2, -3, 4), 0x42000000},
		{singles(0.1), singles(0.1), 0x3c23d70b},
		{singles(0.1, 0.1, 0.1), singles(1, 1, 1), 0x3e99999a},
	} {
		r.holdDot(t)
	}
}

// P14.1: the sum begins with Zero, and a nought that it becomes has the sign that fma says.
func TestDotOfNoughts(t *testing.T) {
	for _, r := range []dotRow{
		{singles(0), singles(1), 0},
		{[]uint32{0x80000000}, singles(1), 0}, // a nought without a sign is ahead of it
		{[]uint32{0x80000000}, []uint32{0x80000000}, 0},
		{[]uint32{0x80000000, 0x80000000}, singles(1, 2), 0},
		{singles(3, 3), singles(2, -2), 0},
		{[]uint32{0x80000000, 0x3f800000}, singles(1, 5), 0x40a00000},
		// least times least below nought is rounded to a nought with a sign
		{[]uint32{1}, []uint32{0x80000001}, 0x80000000},
		{[]uint32{1, 0x80000000}, []uint32{0x80000001, 0x3f800000}, 0x80000000},
		{[]uint32{1, 0}, []uint32{0x80000001, 0x3f800000}, 0},
		{[]uint32{1, 1}, []uint32{0x80000001, 1}, 0},
	} {
		r.holdDot(t)
	}
}

// P14.1: infinities stay, but for one of the other sign or a nought beside them; NaNs of either kind stay wherever they stand.
func TestDotOfNoNumbers(t *testing.T) {
	const inf, less = 0x7f800000, 0xff800000
	rows := []dotRow{
		{[]uint32{inf}, singles(1), inf},
		{[]uint32{inf}, singles(-2), less},
		{[]uint32{inf}, []uint32{less}, less},
		{[]uint32{inf}, singles(0), plainNan},
		{[]uint32{less}, []uint32{0x80000000}, plainNan},
		{[]uint32{0x3f800000, inf, 0x3f800000}, singles(1, 1, -1), inf},
		{[]uint32{inf, 0xff7fffff}, singles(1, 2), inf},
		{[]uint32{inf, inf}, singles(1, 1), inf},
		{[]uint32{inf, inf}, singles(1, -1), plainNan},
		{[]uint32{inf, less, 0x3f800000}, singles(1, 1, 1), plainNan},
		{[]uint32{0x3f800000, less}, singles(1, 1), less},
	}
	for _, nan := range []uint32{plainNan, 0xffc00000, 0x7fc12345, 0xffffffff, 0x7f800001, 0xff800001, 0x7fbfffff} {
		for at := range 4 {
			for _, b := range [][]uint32{singles(1, 2, 3, 4), {0, 0, 0, 0}, {inf, inf, inf, inf}, {nan, nan, nan, nan}} {
				a := slices.Clone(singles(4, 3, 2, 1))
				a[at] = nan
				rows = append(rows, dotRow{a, b, plainNan})
			}
		}
	}
	for _, r := range rows {
		r.holdDot(t)
	}
}

// P14.1: a sum above the Greatest is an infinity and stays one, whatever comes; a
// product above it is none, if the sum so far takes enough away.
func TestDotAboveTheGreatest(t *testing.T) {
	const most, lowest = 0x7f7fffff, 0xff7fffff
	for _, r := range []dotRow{
		{[]uint32{most}, singles(1), most},
		{[]uint32{most}, singles(-1), lowest},
		{[]uint32{most}, []uint32{most}, 0x7f800000},
		{[]uint32{most, most}, singles(1, 1), 0x7f800000},
		{[]uint32{most, most, lowest}, singles(1, 1, 1), 0x7f800000},
		{[]uint32{lowest, lowest, most}, singles(1, 1, 1), 0xff800000},
		{[]uint32{most, lowest, most}, singles(1, 1, 1), most},
		{[]uint32{lowest, most}, singles(1, 2), most},
		{[]uint32{most, lowest}, singles(2, 1), 0x7f800000},
		{[]uint32{most, 0x73000000}, singles(1, 1), 0x7f800000}, // halfway to the next: away from the odd one
		{[]uint32{most, 0x72ffffff}, singles(1, 1), most},
	} {
		r.holdDot(t)
	}
}

// P14.1: what a product has below a sum's last bit decides, though a product that
// is rounded apart has lost it, or is nought.
func TestDotIsRoundedOnce(t *testing.T) {
	for _, r := range []dotRow{
		{[]uint32{0x3f801000, 0x3f800800}, []uint32{0xbf800000, 0x3f800800}, 0x33800000},
		{[]uint32{0xbf800000, 0x3f800001}, []uint32{0x3f800000, 0x3f7ffffe}, 0xa8800000},
		{[]uint32{0x4b800000, 0x3f800001}, []uint32{0x3f800000, 0x3f7ffffe}, 0x4b800000},
		{[]uint32{0x4b800000, 0x3f800001}, []uint32{0x3f800000, 0x3f7fffff}, 0x4b800001},
		// subnormal ahead of the sum: half of the least number, beside one of it, is 2 of it
		{[]uint32{1, 1}, []uint32{0x3f800000, 0x3f000000}, 2},
		{[]uint32{0x80000001, 1}, []uint32{0x3f800000, 0x3f000000}, 0x80000000},
		{[]uint32{0x007fffff, 1}, []uint32{0x3f800000, 0x3f000000}, 0x00800000},
		{[]uint32{0x80000002, 3}, []uint32{0x3f800000, 0x3f000000}, 0x80000000},
		{[]uint32{1, 1}, []uint32{0x3f000000, 0x3f000000}, 0}, // but each sum is rounded
		{[]uint32{3, 1}, []uint32{0x3f000000, 0x3f000000}, 2},
		{[]uint32{0x1f800000, 0x3f800000}, []uint32{0x1f800000, 0x20000000}, 0x20000000},
		{[]uint32{1, 0x3f800000}, []uint32{0x80000001, 0x3f800000}, 0x3f800000},
	} {
		r.holdDot(t)
	}
}

// P14.1: two products of edges together, each with each.
func TestDotOfEdges(t *testing.T) {
	l := edges()
	for _, a := range l {
		for _, b := range l {
			first := fused(a, b, 0)
			for _, c := range l {
				for _, d := range l {
					if v, e := Dot([]uint32{a, c}, []uint32{b, d}); v != fused(c, d, first) || e != api.OK {
						t.Fatalf("P14.1: Dot of %#x, %#x and %#x, %#x is %#x, error %d, not %#x", a, c, b, d, v, e, fused(c, d, first))
					}
				}
			}
		}
	}
}

// P14.1: lists without a pattern, as long as may be, are as numbers with room for all have them.
func TestDotIsExact(t *testing.T) {
	for seed := range uint64(30) {
		for _, n := range []int{1, 2, 3, 4, 5, 7, 8, 15, 16, 17, 31, 64, 100} {
			for _, k := range [][2]api.Tensor{
				{single.near(1, n, seed+1), single.near(1, n, seed+1000)},
				{single.mixed(1, n, seed+2000), single.near(1, n, seed+3000)},
				{single.mixed(1, n, seed+4000), single.mixed(1, n, seed+5000)},
			} {
				dotRow{k[0].V, k[1].V, dotted(k[0].V, k[1].V)}.holdDot(t)
			}
		}
	}
	a, b := single.near(1, 20000, 7), single.near(1, 20000, 8) // longer than a tensor's row
	dotRow{a.V, b.V, dotted(a.V, b.V)}.holdDot(t)
}

// P14.1: a list beside itself, and a nil list beside an empty one.
func TestDotOfTheSame(t *testing.T) {
	l := singles(1, 2, -3)
	dotRow{l, l, 0x41600000}.holdDot(t)
	dotRow{nil, []uint32{}, 0}.holdDot(t)
	dotRow{[]uint32{}, []uint32{}, 0}.holdDot(t)
	dotRow{l[:0], l[3:], 0}.holdDot(t)
}

// P14.1: lists of unlike lengths: ErrShape, and nothing, whatever they hold.
func TestDotOfUnlike(t *testing.T) {
	l := single.mixed(1, 20, 3).V
	for n := range len(l) {
		for k := range len(l) {
			if v, e := Dot(l[:n], l[:k]); n != k && (v != 0 || e != api.ErrShape) {
				t.Errorf("P14.1: Dot of %d numbers and %d: %#x, error %d", n, k, v, e)
			}
		}
	}
	for _, k := range [][2][]uint32{{nil, {0}}, {{0}, nil}, {{}, {plainNan}}, {{plainNan, 1}, {plainNan}}} {
		if v, e := Dot(k[0], k[1]); v != 0 || e != api.ErrShape {
			t.Errorf("P14.1: Dot of %#x and %#x: %#x, error %d", k[0], k[1], v, e)
		}
	}
}
