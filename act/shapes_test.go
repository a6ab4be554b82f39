package act

import (
	"math"
	"testing"

	"anneal/api"
)

// wrong are tensors that aren't right, each for one reason.
func wrong() []api.Tensor {
	var l []api.Tensor
	for _, w := range layouts() {
		l = append(l,
			of(2, 3, w.f, 1, 2, 3, 4, 5), of(2, 3, w.f, 1, 2, 3, 4, 5, 6, 7), of(2, 3, w.f), of(0, 0, w.f, 0), of(0, 3, w.f, 1, 2, 3), of(1, 1, w.f),
			of(-1, 0, w.f), of(0, -1, w.f), of(-2, -3, w.f, 1, 2, 3, 4, 5, 6), of(-1, -1, w.f, 1), of(-1, 1, w.f), of(math.MinInt, 0, w.f), of(0, math.MinInt, w.f),
			of(4097, 0, w.f), of(0, 4097, w.f), of(1<<32, 1<<32, w.f), of(math.MaxInt, math.MaxInt, w.f, 1), of(4097, 1, w.f, make([]uint32, 4097)...), of(1, 4097, w.f, make([]uint32, 4097)...))
	}
	for _, f := range []int{-1, 3, 4, 255, 1 << 32, math.MinInt, math.MaxInt} {
		l = append(l, of(0, 0, f), of(1, 1, f, 0), of(2, 3, f, 1, 2, 3, 4, 5, 6), of(0, 3, f))
	}
	for bit := 16; bit < 32; bit++ {
		l = append(l, of(1, 1, api.Half, 1<<bit), of(2, 3, api.Brain, 1, 2, 3, 4, 5, 6|1<<bit), of(3, 2, api.Half, 1<<bit, 2, 3, 4, 5, 6))
	}
	return l
}

// goesWith tells right tensors, among them such as have the shape that x says.
func goesWith(x api.Tensor) []api.Tensor {
	l := []api.Tensor{of(0, 0, api.Half), of(1, 1, api.Single, 0x3f800000), single.near(2, 3, 1), brain.near(3, 2, 2)}
	fit := func(n int) int { return min(max(n, 0), api.MaxWidth) }
	rows, cols := fit(x.Rows), fit(x.Cols)
	if rows*cols > 2*api.MaxWidth {
		return l
	}
	return append(l, half.near(rows, cols, 4), brain.near(rows, cols, 5), single.near(rows, cols, 6))
}

// P15.2: of a tensor that isn't right, the first one, the second one or both, there is
// ErrShape, ahead of ErrRange.
func TestOfWrongTensors(t *testing.T) {
	l := wrong()
	for _, kind := range append(noKinds(), 0, 1, 2, 3) {
		for i, x := range l {
			got, e := Forward(kind, x)
			holdError(t, "P15.2: Forward of a wrong one", got, e, api.ErrShape)
			for _, y := range goesWith(x) {
				got, e = Back(kind, x, y)
				holdError(t, "P15.2: Back of a wrong first one", got, e, api.ErrShape)
				got, e = Back(kind, y, x)
				holdError(t, "P15.2: Back of a wrong second one", got, e, api.ErrShape)
			}
			for _, y := range []api.Tensor{x, l[(i+1)%len(l)], l[(i+19)%len(l)]} {
				got, e = Back(kind, x, y)
				holdError(t, "P15.2: Back of two wrong ones", got, e, api.ErrShape)
			}
		}
	}
}

// P15.2: Back asks for the same rows and the same columns, ahead of the activation; the formats may be unlike.
func TestUnlikeShapes(t *testing.T) {
	shapes := []struct{ rows, cols int }{{0, 0}, {0, 1}, {1, 0}, {0, 3}, {3, 0}, {1, 1}, {1, 3}, {3, 1}, {2, 3}, {3, 2}, {1, 6}, {6, 1}, {2, 4}, {1, 2}, {4096, 0}, {0, 4096}}
	for i, s := range shapes {
		for k, o := range shapes {
			z, d := layouts()[i%3].near(s.rows, s.cols, 1), layouts()[k%3].near(o.rows, o.cols, 2)
			for _, kind := range append(noKinds(), 0, 1, 2, 3) {
				isOne := 0 <= kind && kind <= api.Gelu
				got, e := Back(kind, z, d)
				switch {
				case s != o:
					holdError(t, "P15.2: Back of unlike shapes", got, e, api.ErrShape)
				case !isOne:
					holdError(t, "P15.2: Back of no activation", got, e, api.ErrRange)
				default:
					holdTensor(t, "P15.2: Back of one shape", got, e, backwards(kind, z, d), api.OK)
				}
			}
		}
	}
}

// P15.2: of an activation that is none there is ErrRange, of tensors of nothing, too.
func TestOfNoKind(t *testing.T) {
	for _, kind := range noKinds() {
		for _, w := range layouts() {
			for _, z := range []api.Tensor{w.near(2, 3, 1), w.mixed(1, 7, 2), w.near(1, 1, 3), of(0, 0, w.f), of(0, 5, w.f), of(5, 0, w.f), of(0, 4096, w.f)} {
				got, e := Forward(kind, z)
				holdError(t, "P15.2: Forward of no activation", got, e, api.ErrRange)
				for _, v := range layouts() {
					d := v.near(z.Rows, z.Cols, 4)
					got, e = Back(kind, z, d)
					holdError(t, "P15.2: Back of no activation", got, e, api.ErrRange)
					got, e = Back(kind, d, z)
					holdError(t, "P15.2: Back of no activation", got, e, api.ErrRange)
				}
			}
		}
	}
}

// P15.2: the room behind a list's end is no part of the tensor.
func TestRoomSaysNothing(t *testing.T) {
	room := []uint32{0x3c00, 0xbc00, 0x4000, 0xc000, 0x7e00, 0xffffffff, 0x10000}
	for kind, name := range kinds() {
		z := of(2, 2, api.Half, room[:4]...)
		got, e := Forward(kind, z)
		holdTensor(t, "P15.2: Forward with room, "+name, got, e, forwards(kind, z), api.OK)
		got, e = Back(kind, z, z)
		holdTensor(t, "P15.2: Back with room, "+name, got, e, backwards(kind, z, z), api.OK)
	}
}
