package kern

import (
	"math"
	"testing"

	"anneal/api"
)

// beside is what op makes of each of a's numbers and of b's number at its place; b's one row is below itself again.
func beside(a, b api.Tensor, op func(v, w uint32) uint32) api.Tensor {
	told, y := of(a.Rows, a.Cols, api.Single), widened(b)
	for i, v := range widened(a) {
		told.V = append(told.V, op(v, y[i%len(y)]))
	}
	return told
}

// summed is what the document says of a's columns.
func summed(a api.Tensor) api.Tensor {
	told, x := of(1, a.Cols, api.Single), widened(a)
	for c := range a.Cols {
		so := uint32(0)
		for r := range a.Rows {
			so = added(so, x[r*a.Cols+c])
		}
		told.V = append(told.V, so)
	}
	return told
}

// holdAll holds each of P14.2's calls: of a and b (of a's shape), b's first row, and v.
func holdAll(t *testing.T, what string, a, b api.Tensor, v uint32) {
	t.Helper()
	got, e := Add(a, b)
	holdTensor(t, what+": Add", got, e, beside(a, b, added), api.OK)
	got, e = Mul(a, b)
	holdTensor(t, what+": Mul", got, e, beside(a, b, multiplied), api.OK)
	got, e = Sums(a)
	holdTensor(t, what+": Sums", got, e, summed(a), api.OK)
	got, e = By(a, v)
	holdTensor(t, what+": By", got, e, beside(a, of(1, 1, api.Single, v), multiplied), api.OK)
	row := of(1, b.Cols, b.F, b.V[:b.Cols]...)
	got, e = Bias(a, row)
	holdTensor(t, what+": Bias", got, e, beside(a, row, added), api.OK)
}

// P14.2: numbers that are written out, in each two formats.
func TestRowsOfNumbers(t *testing.T) {
	told := func(rows, cols int, l ...float32) api.Tensor { return of(rows, cols, api.Single, singles(l...)...) }
	for _, v := range layouts() {
		for _, w := range layouts() {
			a, what := v.small(2, 3, 1, 2, 3, 4, 5, -6), "P14.2: "+v.name+" and "+w.name
			got, e := Bias(a, w.small(1, 3, 10, 20, 30))
			holdTensor(t, what+": Bias", got, e, told(2, 3, 11, 22, 33, 14, 25, 24), api.OK)
			got, e = Sums(a)
			holdTensor(t, what+": Sums", got, e, told(1, 3, 5, 7, -3), api.OK)
			got, e = Add(a, w.small(2, 3, 6, 5, 4, 3, 2, 1))
			holdTensor(t, what+": Add", got, e, told(2, 3, 7, 7, 7, 7, 7, -5), api.OK)
			got, e = Mul(a, w.small(2, 3, 6, 5, 4, 3, 2, 1))
			holdTensor(t, what+": Mul", got, e, told(2, 3, 6, 10, 12, 12, 10, -6), api.OK)
			got, e = By(a, math.Float32bits(-0.5))
			holdTensor(t, what+": By", got, e, told(2, 3, -0.5, -1, -1.5, -2, -2.5, 3), api.OK)
		}
	}
}

// P14.2: tensors without a pattern, of all shapes, in each two formats, are as the machine has them.
func TestRowsAreTheMachines(t *testing.T) {
	for i, s := range []struct{ rows, cols int }{{1, 1}, {1, 7}, {7, 1}, {2, 3}, {3, 2}, {5, 5}, {13, 6}, {40, 3}, {1, 4096}, {4096, 1}} {
		for _, v := range layouts() {
			for _, w := range layouts() {
				seed, c := uint64(i+1), chain(i+77)
				what := "P14.2: " + v.name + " and " + w.name
				holdAll(t, what+" near 1.0", v.near(s.rows, s.cols, seed), w.near(s.rows, s.cols, seed+100), single.near(1, 1, seed+200).V[0])
				holdAll(t, what+" mixed", v.mixed(s.rows, s.cols, seed+300), w.mixed(s.rows, s.cols, seed+400), c.next())
			}
		}
	}
	a, b := half.near(600, 500, 3), brain.near(600, 500, 4) // more than MaxCells
	holdAll(t, "P14.2: more than MaxCells", a, b, 0x3fc00000)
}

// P14.2: edges, each with each: noughts with a sign, subnormal numbers, the greatest ones, infinities, NaNs.
func TestRowsOfEdges(t *testing.T) {
	l := edges()
	for _, v := range l {
		a, b := of(len(l), 1, api.Single, l...), of(len(l), 1, api.Single)
		for range l {
			b.V = append(b.V, v)
		}
		holdAll(t, "P14.2: of edges", a, b, v)
		holdAll(t, "P14.2: of edges", turned(b), turned(a), v)
	}
}

// P14.2: rows that are written out, of what has edges: what is told is a Single's, rounded once, to the even one.
func TestEdgesWrittenOut(t *testing.T) {
	for _, x := range []struct {
		v, w            layout
		a, b, sum, prod uint32
	}{
		{half, half, 0x8000, 0x8000, 0x80000000, 0x00000000},
		{half, brain, 0x8000, 0x0000, 0x00000000, 0x80000000},
		{half, half, 0x3c00, 0xbc00, 0x00000000, 0xbf800000},
		{half, half, 0x0001, 0x8001, 0x00000000, 0xa7800000},
		{half, half, 0x7bff, 0x7bff, 0x47ffe000, 0x4f7fc004},
		{half, single, 0x0001, 0x4b800000, 0x4b800000, 0x3f800000},
		{half, single, 0x3c00, 0x4b800000, 0x4b800000, 0x4b800000}, // halfway to the odd one
		{half, single, 0x3c00, 0x4b800001, 0x4b800002, 0x4b800001},
		{brain, brain, 0x7f7f, 0x7f7f, 0x7f800000, 0x7f800000},
		{brain, brain, 0xff7f, 0x7f7f, 0x00000000, 0xff800000},
		{brain, brain, 0x0001, 0x0001, 0x00020000, 0x00000000},
		{brain, single, 0x3f00, 0x00000001, 0x3f000000, 0x00000000},
		{brain, single, 0x3f00, 0x80000003, 0x3f000000, 0x80000002},
		{single, single, 0x3f800001, 0x3f800001, 0x40000001, 0x3f800002},
		{single, single, 0x7f7fffff, 0x73000000, 0x7f800000, 0x7f800000},
		{single, single, 0x7f7fffff, 0x72ffffff, 0x7f7fffff, 0x7f800000},
		{half, half, 0x7c00, 0xfc00, plainNan, 0xff800000},
		{half, brain, 0x7c00, 0x7f80, 0x7f800000, 0x7f800000},
		{half, brain, 0xfc00, 0x8000, 0xff800000, plainNan},
		{brain, half, 0x7fc1, 0x3c00, plainNan, plainNan},
		{brain, half, 0xff81, 0x3c00, plainNan, plainNan},
		{half, single, 0x3c00, 0xff800001, plainNan, plainNan},
	} {
		for _, o := range []struct {
			v, w layout
			a, b uint32
		}{{x.v, x.w, x.a, x.b}, {x.w, x.v, x.b, x.a}} {
			a, b := of(1, 1, o.v.f, o.a), of(1, 1, o.w.f, o.b)
			got, e := Add(a, b)
			holdTensor(t, "P14.2: Add", got, e, of(1, 1, api.Single, x.sum), api.OK)
			got, e = Bias(a, b)
			holdTensor(t, "P14.2: Bias", got, e, of(1, 1, api.Single, x.sum), api.OK)
			got, e = Mul(a, b)
			holdTensor(t, "P14.2: Mul", got, e, of(1, 1, api.Single, x.prod), api.OK)
			got, e = By(a, o.w.wide(o.b))
			holdTensor(t, "P14.2: By", got, e, of(1, 1, api.Single, x.prod), api.OK)
		}
	}
}

// P14.2: Sums begins with Zero: a nought with a sign goes out; infinities and NaNs
// stay in their column, and a sum that overflows stays above.
func TestSumsRows(t *testing.T) {
	const inf, less, most = 0x7f800000, 0xff800000, 0x7f7fffff
	for _, x := range []struct{ column, want []uint32 }{
		{nil, []uint32{0}},
		{[]uint32{0x80000000}, []uint32{0}},
		{[]uint32{0x80000000, 0x80000000}, []uint32{0}},
		{[]uint32{1, 0x80000001}, []uint32{0}},
		{singles(3, -3, 2), singles(2)},
		{[]uint32{most, most, 0xff7fffff}, []uint32{inf}},
		{[]uint32{most, 0xff7fffff, most}, []uint32{most}},
		{[]uint32{most, 0x73000000}, []uint32{inf}},
		{[]uint32{inf, 0x3f800000, 0xff7fffff}, []uint32{inf}},
		{[]uint32{0x3f800000, less}, []uint32{less}},
		{[]uint32{inf, less, 0x3f800000}, []uint32{plainNan}},
		{[]uint32{0xffc00001, 0x3f800000}, []uint32{plainNan}},
		{[]uint32{0x3f800000, 0x7f800001, inf}, []uint32{plainNan}},
	} {
		got, e := Sums(of(len(x.column), 1, api.Single, x.column...))
		holdTensor(t, "P14.2: Sums", got, e, of(1, 1, api.Single, x.want...), api.OK)
		two := of(len(x.column), 2, api.Single) // beside a column of ones
		for _, v := range x.column {
			two.V = append(two.V, 0x3f800000, v)
		}
		got, e = Sums(two)
		holdTensor(t, "P14.2: Sums of two", got, e, of(1, 2, api.Single, math.Float32bits(float32(len(x.column))), x.want[0]), api.OK)
	}
}

// P14.2: of no rows, no columns: Sums tells Zeros, or a row of no columns; the others tell nothing, in the shape.
func TestRowsOfNothing(t *testing.T) {
	for _, s := range []struct{ rows, cols int }{{0, 0}, {0, 1}, {1, 0}, {0, 5}, {5, 0}, {0, 4096}, {4096, 0}} {
		for _, v := range layouts() {
			for _, w := range layouts() {
				a, want := of(s.rows, s.cols, v.f), of(s.rows, s.cols, api.Single)
				got, e := Add(a, of(s.rows, s.cols, w.f, []uint32{}...))
				holdTensor(t, "P14.2: Add of nothing", got, e, want, api.OK)
				got, e = Mul(a, of(s.rows, s.cols, w.f))
				holdTensor(t, "P14.2: Mul of nothing", got, e, want, api.OK)
				got, e = Bias(a, of(1, s.cols, w.f, make([]uint32, s.cols)...))
				holdTensor(t, "P14.2: Bias of nothing", got, e, want, api.OK)
				got, e = By(a, plainNan)
				holdTensor(t, "P14.2: By of nothing", got, e, want, api.OK)
				got, e = Sums(a)
				holdTensor(t, "P14.2: Sums of nothing", got, e, of(1, s.cols, api.Single, make([]uint32, s.cols)...), api.OK)
			}
		}
	}
}

// P14.2: at most as many numbers as a tensor has: 4096 times 4096.
func TestRowsAtMost(t *testing.T) {
	const width = api.MaxWidth
	ones, want := of(width, width, api.Half, make([]uint32, width*width)...), of(width, width, api.Single, make([]uint32, width*width)...)
	for i := range ones.V {
		ones.V[i], want.V[i] = 0x3c00, 0x40000000
	}
	got, e := Bias(ones, of(1, width, api.Half, ones.V[:width]...))
	holdTensor(t, "P14.2: Bias at most", got, e, want, api.OK)
	got, e = Sums(ones)
	for i := range width {
		want.V[i] = 0x45800000
	}
	holdTensor(t, "P14.2: Sums at most", got, e, of(1, width, api.Single, want.V[:width]...), api.OK)
}
