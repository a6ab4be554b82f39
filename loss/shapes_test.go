package loss

import (
	"math"
	"slices"
	"testing"

	"anneal/api"
)

// wrong are tensors that aren't right, each for one reason.
func wrong() []api.Tensor {
	var l []api.Tensor
	for _, w := range layouts() {
		l = append(l,
			of(2, 3, w.f, 1, 2, 3, 4, 5), of(2, 3, w.f, 1, 2, 3, 4, 5, 6, 7), of(2, 3, w.f), of(0, 0, w.f, 0), of(0, 3, w.f, 1, 2, 3), of(1, 1, w.f),
			of(-1, 0, w.f), of(0, -1, w.f), of(-2, -3, w.f, 1, 2, 3, 4, 5, 6), of(-1, -1, w.f, 1), of(-1, 1, w.f), of(math.MinInt, 0, w.f), of(0, math.MinInt, w.f),
			of(4097, 0, w.f), of(0, 4097, w.f), of(1<<32, 1<<32, w.f), of(math.MaxInt, math.MaxInt, w.f, 1), of(4097, 1, w.f, make([]uint32, 4097)...), of(1, 4097, w.f, make([]uint32, 4097)...))
	}
	for _, f := range []int{-1, 3, 4, 255, 1 << 32, math.MinInt, math.MaxInt} {
		l = append(l, of(0, 0, f), of(1, 1, f, 0), of(2, 3, f, 1, 2, 3, 4, 5, 6), of(0, 3, f))
	}
	for bit := 16; bit < 32; bit++ {
		l = append(l, of(1, 1, api.Half, 1<<bit), of(2, 3, api.Brain, 1, 2, 3, 4, 5, 6|1<<bit), of(3, 2, api.Half, 1<<bit, 2, 3, 4, 5, 6))
	}
	return l
}

// fit is the number of rows, of columns that may be, nearest to n.
func fit(n int) int { return min(max(n, 0), api.MaxWidth) }

// goesWith tells right tensors, among them such as have the shape that x says.
func goesWith(x api.Tensor) []api.Tensor {
	l := []api.Tensor{of(0, 0, api.Half), of(1, 1, api.Single, 0x3f800000), single.near(2, 3, 1), brain.near(3, 2, 2)}
	rows, cols := fit(x.Rows), fit(x.Cols)
	if rows*cols > 2*api.MaxWidth {
		return l
	}
	return append(l, half.near(rows, cols, 4), brain.near(rows, cols, 5), single.near(rows, cols, 6))
}

// holdLabelled holds that Softmax and Right both tell an error and nothing beside it.
func holdLabelled(t *testing.T, what string, z api.Tensor, y []int, want api.Errno) {
	t.Helper()
	holdError(t, "P16.1: Softmax of "+what, allOf(Softmax(z, y)), want)
	n, e := Right(z, y)
	holdCount(t, "P16.3: Right of "+what, n, e, 0, want)
}

// P16.1, P16.3: of a tensor that isn't right there is ErrShape, ahead of ErrRange.
func TestLabelledOfWrongTensors(t *testing.T) {
	for _, z := range wrong() {
		for _, n := range []int{0, 1, 2, 3, fit(z.Rows), len(z.V)} {
			for _, label := range []int{0, 1, -1, 3, math.MaxInt} {
				holdLabelled(t, "a wrong one", z, slices.Repeat([]int{label}, n), api.ErrShape)
			}
		}
	}
}

// P16.2: of a tensor that isn't right, the first one, the second one or both, there is ErrShape.
func TestMseOfWrongTensors(t *testing.T) {
	l := wrong()
	for i, x := range l {
		for _, y := range goesWith(x) {
			holdError(t, "P16.2: Mse of a wrong first one", allOf(Mse(x, y)), api.ErrShape)
			holdError(t, "P16.2: Mse of a wrong second one", allOf(Mse(y, x)), api.ErrShape)
		}
		for _, y := range []api.Tensor{x, l[(i+1)%len(l)], l[(i+19)%len(l)]} {
			holdError(t, "P16.2: Mse of two wrong ones", allOf(Mse(x, y)), api.ErrShape)
		}
	}
}

// P16.2: Mse asks for the same rows and the same columns; the formats may be unlike.
func TestMseOfUnlikeShapes(t *testing.T) {
	shapes := []struct{ rows, cols int }{{0, 0}, {0, 1}, {1, 0}, {0, 3}, {3, 0}, {1, 1}, {1, 3}, {3, 1}, {2, 3}, {3, 2}, {1, 6}, {6, 1}, {2, 4}, {1, 2}, {4096, 0}, {0, 4096}}
	for _, s := range shapes {
		for _, o := range shapes {
			for _, v := range layouts() {
				for _, w := range layouts() {
					x, y := v.near(s.rows, s.cols, 1), w.near(o.rows, o.cols, 2)
					if s != o {
						holdError(t, "P16.2: Mse of unlike shapes", allOf(Mse(x, y)), api.ErrShape)
						continue
					}
					loss, slopes := squared(x, y)
					hold(t, "P16.2: Mse of one shape", allOf(Mse(x, y)), loss, slopes)
				}
			}
		}
	}
}

// P16.1, P16.3: there are as many labels as rows, else there is ErrShape, whatever the labels are.
func TestOtherManyLabels(t *testing.T) {
	for _, w := range layouts() {
		for _, s := range []struct{ rows, cols int }{{0, 0}, {0, 3}, {1, 1}, {1, 4}, {2, 3}, {3, 2}, {6, 1}, {4096, 1}} {
			z := w.near(s.rows, s.cols, 1)
			for _, n := range []int{0, 1, 2, 3, 4, 5, 6, 7, 4095, 4096, 4097, s.rows * s.cols} {
				for _, label := range []int{0, -1, s.cols, math.MinInt, math.MaxInt} {
					if n != s.rows {
						holdLabelled(t, "other many labels", z, slices.Repeat([]int{label}, n), api.ErrShape)
					}
				}
			}
		}
	}
}

// P16.1, P16.3: rows have columns, else there is ErrShape, whatever the labels are.
func TestRowsWithoutColumns(t *testing.T) {
	for _, w := range layouts() {
		for _, rows := range []int{1, 2, 3, 4095, 4096} {
			for _, label := range []int{0, -1, 1, math.MaxInt} {
				holdLabelled(t, "no columns", of(rows, 0, w.f), slices.Repeat([]int{label}, rows), api.ErrShape)
				holdLabelled(t, "no columns", of(rows, 0, w.f), slices.Repeat([]int{label}, rows-1), api.ErrShape)
			}
		}
	}
}

// P16.1, P16.3: a label that is no column, whichever row it is of, is ErrRange.
func TestLabelsThatAreNoColumns(t *testing.T) {
	for _, w := range layouts() {
		for _, s := range []struct{ rows, cols int }{{1, 1}, {1, 3}, {2, 3}, {3, 2}, {5, 1}, {4, 100}, {2, 4096}} {
			z := w.near(s.rows, s.cols, 1)
			for r := range s.rows {
				y := labels(s.rows, s.cols, 3)
				for _, label := range []int{-1, -2, -s.cols, s.cols, s.cols + 1, s.rows * s.cols, s.cols + 1<<32, 1 << 32, -1 << 32, 1<<63 - 1, math.MinInt, math.MinInt + 1} {
					y[r] = label
					holdLabelled(t, "no such label", z, y, api.ErrRange)
				}
				for _, label := range []int{0, s.cols - 1} {
					y[r] = label
					loss, slopes := softmaxed(z, y)
					hold(t, "P16.1: Softmax of the first, the last label", allOf(Softmax(z, y)), loss, slopes)
					n, e := Right(z, y)
					holdCount(t, "P16.3: Right of the first, the last label", n, e, firsts(z, y), api.OK)
				}
			}
			for _, label := range []int{-1, s.cols} {
				holdLabelled(t, "no such label", z, slices.Repeat([]int{label}, s.rows), api.ErrRange)
			}
		}
	}
}

// P16.1, P16.2, P16.3: the room behind a list's end is no part of a tensor, or of labels.
func TestRoomSaysNothing(t *testing.T) {
	room := []uint32{0x3c00, 0xbc00, 0x4000, 0xc000, 0x7e00, 0xffffffff, 0x10000}
	more := []int{0, 1, -1, 9, 0}
	z, y := of(2, 2, api.Half, room[:4]...), more[:2]
	loss, slopes := softmaxed(z, y)
	hold(t, "P16.1: Softmax with room", allOf(Softmax(z, y)), loss, slopes)
	loss, slopes = squared(z, of(2, 2, api.Brain, room[1:5]...))
	hold(t, "P16.2: Mse with room", allOf(Mse(z, of(2, 2, api.Brain, room[1:5]...))), loss, slopes)
	n, e := Right(z, y)
	holdCount(t, "P16.3: Right with room", n, e, firsts(z, y), api.OK)
}
