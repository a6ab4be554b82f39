package loss

import (
	"testing"

	"anneal/api"
)

// rightRow is one row, and of each of its columns whether the row is right if that is the label.
type rightRow struct {
	w      layout
	z      []uint32
	counts []int
}

// P16.3: rows that are written out: the greatest one, the first one of several, noughts
// of either sign, infinities, subnormal numbers, NaNs ahead, behind, in the label's place.
func TestRightRows(t *testing.T) {
	for _, x := range []rightRow{
		// one number, whatever it is
		{half, []uint32{0x3c00}, []int{1}}, {half, []uint32{0xfc00}, []int{1}}, {half, []uint32{0x7e00}, []int{1}},
		{brain, []uint32{0x8000}, []int{1}}, {brain, []uint32{0x7f80}, []int{1}}, {brain, []uint32{0xff81}, []int{1}},
		{single, []uint32{0}, []int{1}}, {single, []uint32{0xff7fffff}, []int{1}}, {single, []uint32{nan}, []int{1}}, {single, []uint32{0x7f800001}, []int{1}},
		// the greatest one
		{half, []uint32{0x3c00, 0x4000}, []int{0, 1}}, {half, []uint32{0x4000, 0x3c00}, []int{1, 0}}, {half, []uint32{0xbc00, 0xc000}, []int{1, 0}},
		{brain, []uint32{0xc000, 0xbf80, 0x3f80}, []int{0, 0, 1}}, {brain, []uint32{0x3f80, 0x4000, 0xff7f}, []int{0, 1, 0}}, {brain, []uint32{0x7f7f, 0x7f7e, 0x7f7d}, []int{1, 0, 0}},
		{single, []uint32{0x3f800000, 0x3f800001, 0x3f7fffff}, []int{0, 1, 0}}, {single, []uint32{0xbf800000, 0xbf800001, 0xbf7fffff}, []int{0, 0, 1}},
		{single, []uint32{0x3f800000, 0x40000000, 0x40400000, 0x40800000, 0x40a00000}, []int{0, 0, 0, 0, 1}}, {single, []uint32{0x40a00000, 0x40800000, 0x40400000, 0x40000000, 0x3f800000}, []int{1, 0, 0, 0, 0}},
		{single, []uint32{0, 1}, []int{0, 1}}, {single, []uint32{1, 0}, []int{1, 0}}, {single, []uint32{0x80000001, minus}, []int{0, 1}}, {single, []uint32{0x80000001, 1, 0x007fffff}, []int{0, 0, 1}},
		// several that are the greatest: the first one
		{half, []uint32{0x3c00, 0x3c00}, []int{1, 0}}, {brain, []uint32{0xbf80, 0xbf80, 0xbf80}, []int{1, 0, 0}},
		{single, []uint32{0x3f800000, 0x40000000, 0x40000000}, []int{0, 1, 0}}, {single, []uint32{0x40000000, 0x3f800000, 0x40000000}, []int{1, 0, 0}}, {single, []uint32{0x40000000, 0x40000000, 0x3f800000}, []int{1, 0, 0}},
		{single, []uint32{0, 0x40400000, 0, 0x40400000, 0x40400000, 0}, []int{0, 1, 0, 0, 0, 0}},
		// noughts are as great
		{half, []uint32{0x8000, 0}, []int{1, 0}}, {half, []uint32{0, 0x8000}, []int{1, 0}}, {brain, []uint32{0x8000, 0, 0x8000}, []int{1, 0, 0}}, {single, []uint32{minus, 0, 0xbf800000}, []int{1, 0, 0}}, {single, []uint32{0xbf800000, minus, 0}, []int{0, 1, 0}},
		// infinities
		{half, []uint32{0x7bff, 0x7c00}, []int{0, 1}}, {half, []uint32{0x7c00, 0x7c00}, []int{1, 0}}, {brain, []uint32{0xff80, 0xff7f}, []int{0, 1}}, {brain, []uint32{0xff80, 0xff80}, []int{1, 0}},
		{single, []uint32{0xff800000, inf, 0x7f7fffff}, []int{0, 1, 0}}, {single, []uint32{0xff7fffff, 0xff800000, 0xff7fffff}, []int{1, 0, 0}},
		// NaNs: nothing behind one is above it, and nothing ahead of one is below it
		{half, []uint32{0x7e00, 0x3c00}, []int{1, 0}}, {half, []uint32{0x3c00, 0x7e00}, []int{1, 0}}, {half, []uint32{0x7c01, 0xfe00}, []int{1, 0}},
		{brain, []uint32{0xffc0, 0x3f80, 0x4000}, []int{1, 0, 0}}, {brain, []uint32{0x3f80, 0x7fc0, 0x4000}, []int{0, 0, 0}}, {brain, []uint32{0x4000, 0x7f81, 0x3f80}, []int{1, 0, 0}},
		{single, []uint32{0x3f800000, 0x40000000, nan}, []int{0, 1, 0}}, {single, []uint32{0x40000000, 0x3f800000, nan}, []int{1, 0, 0}}, {single, []uint32{nan, inf}, []int{1, 0}}, {single, []uint32{inf, 0xffc00000}, []int{1, 0}}, {single, []uint32{0xff800000, 0x7f800001}, []int{1, 0}},
		{single, []uint32{0x3f800000, nan, 0x3f800000}, []int{1, 0, 0}}, {single, []uint32{nan, nan, nan}, []int{1, 0, 0}}, {single, []uint32{0xbf800000, nan, 0x3f800000, nan}, []int{0, 0, 0, 0}},
	} {
		for label, want := range x.counts {
			n, e := Right(of(1, len(x.z), x.w.f, x.z...), []int{label})
			holdCount(t, "P16.3: Right of a row of "+x.w.name, n, e, want, api.OK)
		}
	}
}

// P16.3: rows are counted, each by its own label.
func TestRightCounts(t *testing.T) {
	z := of(4, 3, api.Single, 0x3f800000, 0x40000000, 0x40400000, 0x40400000, 0x40000000, 0x3f800000, 0x3f800000, 0x40400000, 0x40000000, 0x3f800000, 0x3f800000, 0x3f800000)
	for _, x := range []struct {
		y    []int
		want int
	}{
		{[]int{2, 0, 1, 0}, 4}, {[]int{2, 0, 1, 1}, 3}, {[]int{2, 0, 1, 2}, 3}, {[]int{2, 0, 0, 0}, 3}, {[]int{1, 0, 1, 0}, 3}, {[]int{2, 1, 1, 0}, 3},
		{[]int{2, 1, 0, 1}, 1}, {[]int{0, 1, 2, 0}, 1}, {[]int{0, 0, 0, 0}, 2}, {[]int{1, 1, 1, 1}, 1}, {[]int{2, 2, 2, 2}, 1}, {[]int{0, 1, 2, 1}, 0}, {[]int{1, 2, 0, 2}, 0},
	} {
		n, e := Right(z, x.y)
		holdCount(t, "P16.3: Right of rows", n, e, x.want, api.OK)
	}
}

// P16.3: each three edges of a format, with each label, against the machine's floats.
func TestRightOfEdges(t *testing.T) {
	for _, w := range layouts() {
		l := w.edges()
		for _, a := range l {
			var z api.Tensor
			z.F = w.f
			for _, b := range l {
				for _, c := range l {
					z.V = append(z.V, a, b, c)
				}
			}
			z.Rows, z.Cols = len(z.V)/3, 3
			for label := range 3 {
				y := make([]int, z.Rows)
				for r := range y {
					y[r] = label
				}
				n, e := Right(z, y)
				holdCount(t, "P16.3: Right of three of "+w.name, n, e, firsts(z, y), api.OK)
			}
			for r := range z.Rows {
				one := of(1, 3, w.f, z.V[3*r:3*r+3]...)
				for label := range 3 {
					n, e := Right(one, []int{label})
					holdCount(t, "P16.3: Right of three of "+w.name, n, e, firsts(one, []int{label}), api.OK)
				}
			}
		}
	}
}

// P16.3: tensors without a pattern, of all shapes, against the machine's floats.
func TestRightOfMany(t *testing.T) {
	for i, s := range manyShapes() {
		for _, w := range layouts() {
			for k, z := range kindsOf(w, s.rows, s.cols, uint64(i+1)) {
				for seed := range uint64(20) {
					y := labels(s.rows, s.cols, 100*seed+uint64(k)+1)
					n, e := Right(z, y)
					holdCount(t, "P16.3: Right of "+w.name, n, e, firsts(z, y), api.OK)
				}
			}
		}
	}
}

// P16.3: tensors without a pattern are as they were reckoned elsewhere, by another program in another language.
func TestRightSameEverywhere(t *testing.T) {
	for _, x := range []struct {
		w    layout
		want [4][]int
	}{
		{half, [4][]int{{1, 1, 2, 0, 9, 0, 0, 3, 0, 6}, {1, 1, 2, 0, 9, 0, 2, 4, 0, 7}, {1, 0, 2, 0, 9, 1, 2, 3, 0, 5}, {1, 0, 2, 0, 9, 1, 1, 2, 0, 2}}},
		{brain, [4][]int{{1, 1, 2, 0, 9, 0, 0, 1, 0, 6}, {1, 1, 2, 0, 9, 1, 1, 3, 0, 7}, {1, 0, 2, 0, 9, 1, 2, 3, 0, 6}, {1, 0, 2, 0, 9, 1, 1, 2, 0, 2}}},
		{single, [4][]int{{1, 1, 2, 0, 9, 0, 0, 2, 0, 4}, {1, 1, 2, 0, 9, 0, 2, 3, 0, 8}, {1, 0, 2, 0, 9, 0, 3, 3, 0, 5}, {1, 0, 2, 0, 9, 1, 1, 2, 0, 2}}},
	} {
		for kind, want := range x.want {
			for i, s := range manyShapes()[:10] {
				z := kindsOf(x.w, s.rows, s.cols, uint64(i+71))[kind]
				n, e := Right(z, labels(s.rows, s.cols, uint64(i+81)))
				holdCount(t, "P16.3: Right of "+x.w.name, n, e, want[i], api.OK)
			}
		}
	}
}

// P16.3: just one of a row's columns is the right label, if all its numbers are numbers.
func TestRightOfOneLabel(t *testing.T) {
	for _, w := range layouts() {
		for seed := range uint64(50) {
			z, so := w.at(w.lead, 1, 12, seed+1), 0
			for label := range 12 {
				n, _ := Right(z, []int{label})
				so += n
			}
			holdCount(t, "P16.3: Right of all labels of "+w.name, so, api.OK, 1, api.OK)
		}
	}
}

// P16.3: of no rows none is right.
func TestRightOfNoRows(t *testing.T) {
	for _, w := range layouts() {
		for _, cols := range []int{0, 1, 5, 4095, 4096} {
			for _, y := range [][]int{nil, {}, make([]int, 0, 9)} {
				n, e := Right(of(0, cols, w.f), y)
				holdCount(t, "P16.3: Right of no rows", n, e, 0, api.OK)
			}
		}
	}
}

// P16.3: as many numbers as a tensor has at most, the last one too.
func TestRightAtMost(t *testing.T) {
	const width = api.MaxWidth
	z := of(width, width, api.Brain, make([]uint32, width*width)...)
	y := make([]int, width)
	for r := range y {
		y[r] = r
		z.V[r*width+r] = 0x3f80
	}
	n, e := Right(z, y)
	holdCount(t, "P16.3: Right at most", n, e, width, api.OK)
	y[width-1], y[7] = 0, width-1
	n, e = Right(z, y)
	holdCount(t, "P16.3: Right at most", n, e, width-2, api.OK)
}
