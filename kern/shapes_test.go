package kern

import (
	"math"
	"testing"

	"anneal/api"
)

// wrong are tensors that aren't right, each for one reason.
func wrong() []api.Tensor {
	var l []api.Tensor
	for _, w := range layouts() {
		l = append(l,
			of(2, 3, w.f, 1, 2, 3, 4, 5), of(2, 3, w.f, 1, 2, 3, 4, 5, 6, 7), of(2, 3, w.f), of(0, 0, w.f, 0), of(0, 3, w.f, 1, 2, 3), of(1, 1, w.f),
			of(-1, 0, w.f), of(0, -1, w.f), of(-2, -3, w.f, 1, 2, 3, 4, 5, 6), of(-1, -1, w.f, 1), of(-1, 1, w.f), of(math.MinInt, 0, w.f), of(0, math.MinInt, w.f),
			of(4097, 0, w.f), of(0, 4097, w.f), of(1<<32, 1<<32, w.f), of(math.MaxInt, math.MaxInt, w.f, 1), of(4097, 1, w.f, make([]uint32, 4097)...), of(1, 4097, w.f, make([]uint32, 4097)...))
	}
	for _, f := range []int{-1, 3, 4, 255, 1 << 32, math.MinInt, math.MaxInt} {
		l = append(l, of(0, 0, f), of(1, 1, f, 0), of(2, 3, f, 1, 2, 3, 4, 5, 6), of(0, 3, f))
	}
	for bit := 16; bit < 32; bit++ {
		l = append(l, of(1, 1, api.Half, 1<<bit), of(2, 3, api.Brain, 1, 2, 3, 4, 5, 6|1<<bit), of(3, 2, api.Half, 1<<bit, 2, 3, 4, 5, 6))
	}
	return l
}

// goesWith tells right tensors whose shapes would go with x in one call or another, were x right.
func goesWith(x api.Tensor) []api.Tensor {
	l := []api.Tensor{of(0, 0, api.Half), of(1, 1, api.Single, 0x3f800000), single.near(2, 3, 1), brain.near(3, 2, 2), half.near(1, 3, 3)}
	fit := func(n int) int { return min(max(n, 0), api.MaxWidth) }
	rows, cols := fit(x.Rows), fit(x.Cols)
	if rows*cols > 2*api.MaxWidth {
		return l
	}
	return append(l, half.near(rows, cols, 4), brain.near(cols, rows, 5), single.near(1, cols, 6), single.near(1, rows, 7))
}

// P14.1, P14.2: of a tensor that isn't right each call tells ErrShape, whatever the other one is.
func TestOfWrongTensors(t *testing.T) {
	l := wrong()
	for i, x := range l {
		for _, p := range append(products(), pairs()...) {
			for _, y := range append(goesWith(x), l[(i+7)%len(l)], x) {
				got, e := p.call(x, y)
				holdShape(t, "P14.1, P14.2: "+p.name+" of a wrong first one", got, e)
				got, e = p.call(y, x)
				holdShape(t, "P14.1, P14.2: "+p.name+" of a wrong second one", got, e)
			}
		}
		for _, v := range []uint32{0, 0x3f800000, plainNan, math.MaxUint32} {
			got, e := By(x, v)
			holdShape(t, "P14.2: By of a wrong one", got, e)
		}
		got, e := Sums(x)
		holdShape(t, "P14.2: Sums of a wrong one", got, e)
	}
}

// P14.1: each of the products asks for k's that are the same, and for nothing else.
func TestUnlikeProducts(t *testing.T) {
	for _, s := range []struct{ rows, cols int }{{0, 0}, {0, 2}, {2, 0}, {1, 1}, {1, 3}, {3, 1}, {2, 3}, {3, 2}, {3, 3}, {4, 5}} {
		for _, o := range []struct{ rows, cols int }{{0, 0}, {0, 2}, {2, 0}, {1, 1}, {1, 3}, {3, 1}, {2, 3}, {3, 2}, {3, 3}, {5, 4}} {
			a, b := half.near(s.rows, s.cols, 1), single.near(o.rows, o.cols, 2)
			for _, x := range []struct {
				name       string
				call       func(a, b api.Tensor) (api.Tensor, api.Errno)
				k, other   int
				rows, cols int
			}{{"Plain", Plain, s.cols, o.rows, s.rows, o.cols}, {"Rows", Rows, s.cols, o.cols, s.rows, o.rows}, {"Cols", Cols, s.rows, o.rows, s.cols, o.cols}} {
				got, e := x.call(a, b)
				switch {
				case x.k != x.other:
					holdShape(t, "P14.1: "+x.name+" of unlike shapes", got, e)
				case e != api.OK || got.Rows != x.rows || got.Cols != x.cols || got.F != api.Single || len(got.V) != x.rows*x.cols:
					t.Errorf("P14.1: %s of %v and %v: error %d, %d times %d, %d numbers", x.name, s, o, e, got.Rows, got.Cols, len(got.V))
				}
			}
		}
	}
}

// P14.2: Add and Mul ask for the same rows and the same columns, Bias for one row of the same columns.
func TestUnlikePairs(t *testing.T) {
	shapes := []struct{ rows, cols int }{{0, 0}, {0, 1}, {1, 0}, {0, 3}, {3, 0}, {1, 1}, {1, 3}, {3, 1}, {2, 3}, {3, 2}, {1, 6}, {6, 1}, {2, 4}, {1, 2}, {4096, 0}, {0, 4096}}
	for _, s := range shapes {
		for _, o := range shapes {
			a, b := brain.near(s.rows, s.cols, 1), half.near(o.rows, o.cols, 2)
			for _, p := range pairs() {
				fits := s == o
				if p.name == "Bias" {
					fits = o.rows == 1 && s.cols == o.cols
				}
				got, e := p.call(a, b)
				switch {
				case !fits:
					holdShape(t, "P14.2: "+p.name+" of unlike shapes", got, e)
				case e != api.OK || got.Rows != s.rows || got.Cols != s.cols || got.F != api.Single || len(got.V) != len(a.V):
					t.Errorf("P14.2: %s of %v and %v: error %d, %d times %d, %d numbers", p.name, s, o, e, got.Rows, got.Cols, len(got.V))
				}
			}
		}
	}
}

// P14.2: what Bias adds is one row: not of more rows than one, of none, of another width, though there be as many numbers.
func TestUnlikeBias(t *testing.T) {
	a := single.near(4, 3, 1)
	for _, b := range []api.Tensor{single.near(2, 3, 1), single.near(4, 3, 1), of(0, 3, api.Single), of(0, 0, api.Single), of(1, 0, api.Half), single.near(1, 2, 1), single.near(1, 4, 1), single.near(3, 1, 1), single.near(1, 12, 1), single.near(1, 1, 1)} {
		got, e := Bias(a, b)
		holdShape(t, "P14.2: Bias of another row", got, e)
	}
}
