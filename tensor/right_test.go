package tensor

import (
	"math"
	"testing"

	"anneal/api"
)

// P13.1: tensors of each shape and format that may be are right, with any bits that a format has.
func TestRight(t *testing.T) {
	for _, w := range layouts() {
		for _, s := range shapes() {
			if x := w.some(s.rows, s.cols); !Right(x) {
				t.Errorf("P13.1: %d times %d of %s isn't right", s.rows, s.cols, w.name)
			}
		}
		for bit := range w.bits {
			if !Right(of(2, 2, w.f, 0, 1<<bit, w.mask, w.mask>>1)) {
				t.Errorf("P13.1: %s with bit %d isn't right", w.name, bit)
			}
		}
		for _, v := range []uint32{0, w.sign, w.inf, w.sign | w.inf, w.quiet, w.inf + 1, w.mask} {
			if !Right(of(1, 1, w.f, v)) {
				t.Errorf("P13.1: %s's %#x isn't right", w.name, v)
			}
		}
	}
}

// P13.1: what has no rows, no columns, neither, is right with a list that is nil, that is empty.
func TestRightOfNothing(t *testing.T) {
	for _, w := range layouts() {
		for _, n := range []int{0, 1, 5, 4095, 4096} {
			for _, l := range [][]uint32{nil, {}, make([]uint32, 0, 9)} {
				if !Right(of(0, n, w.f, l...)) || !Right(of(n, 0, w.f, l...)) {
					t.Errorf("P13.1: nothing of %d and %s isn't right", n, w.name)
				}
			}
		}
	}
	if !Right(api.Tensor{}) {
		t.Error("P13.1: no rows, no columns of format 0 isn't right")
	}
}

// P13.1: what has another shape, format, count of numbers, or bits above its format's, isn't right; nor is it finite.
func TestWrong(t *testing.T) {
	for _, x := range wrong() {
		if Right(x) {
			t.Errorf("P13.1: %d times %d of format %d with %d numbers is right", x.Rows, x.Cols, x.F, len(x.V))
		}
		if Finite(x) {
			t.Errorf("P13.1: %d times %d of format %d with %d numbers is finite", x.Rows, x.Cols, x.F, len(x.V))
		}
	}
}

// P13.1: the room behind a list's end says nothing.
func TestRightWithRoom(t *testing.T) {
	room := []uint32{1, 2, 3, 4, 5, 6, 0xffffffff, 0x7fffffff, 0x10000}
	for _, w := range layouts() {
		if x := of(2, 3, w.f, room[:6]...); !Right(x) || !Finite(x) {
			t.Errorf("P13.1: %s with room behind it isn't right", w.name)
		}
		if Right(of(3, 3, w.f, room[:6]...)) {
			t.Errorf("P13.1: %s of its room's numbers is right", w.name)
		}
	}
}

// P13.1: the greatest tensor, of many more numbers than MaxCells, is right, and its last place counts.
func TestGreatest(t *testing.T) {
	x := of(api.MaxWidth, api.MaxWidth, api.Half, make([]uint32, api.MaxWidth*api.MaxWidth)...)
	last := len(x.V) - 1
	x.V[last], x.V[api.MaxWidth-1] = 0x3c01, 0x3c02
	if !Right(x) || !Finite(x) {
		t.Error("P13.1: the greatest one isn't right, finite")
	}
	if v, e := At(x, api.MaxWidth-1, api.MaxWidth-1); v != 0x3c01 || e != api.OK {
		t.Errorf("P13.1: its last number is %#x, error %d", v, e)
	}
	if y, e := Turn(x); e != api.OK || len(y.V) != len(x.V) || y.V[last] != 0x3c01 || y.V[last+1-api.MaxWidth] != 0x3c02 {
		t.Errorf("P13.1: it isn't turned: error %d", e)
	}
	if x.V[last] = 0x7c00; !Right(x) || Finite(x) {
		t.Error("P13.1: its last number's infinity isn't seen")
	}
	if x.V[last] = 0x13c01; Right(x) || Finite(x) {
		t.Error("P13.1: its last number's bits aren't seen")
	}
}

// P13.1, the example among them: noughts of any shape, of each format.
func TestNew(t *testing.T) {
	for _, w := range layouts() {
		for _, s := range append(shapes(), shape{512, 512}, shape{4096, 64}, shape{64, 4096}, shape{511, 513}) {
			want := of(s.rows, s.cols, w.f, make([]uint32, s.rows*s.cols)...)
			holdTensor(t, "P13.1: New", New(s.rows, s.cols, w.f), api.OK, want, api.OK)
		}
	}
	if !alike(New(2, 3, api.Half), of(2, 3, api.Half, 0, 0, 0, 0, 0, 0)) {
		t.Error("P13.1: New(2, 3, Half) isn't six noughts")
	}
}

// P13.1: rows and columns are taken as 0 to MaxWidth, each by itself, ahead of counting; too many numbers are none.
func TestNewOfOtherShapes(t *testing.T) {
	for _, x := range []struct{ rows, cols, r, c int }{
		{-1, 3, 0, 3}, {3, -1, 3, 0}, {-1, -1, 0, 0}, {math.MinInt, 7, 0, 7}, {7, math.MinInt, 7, 0}, {math.MinInt, math.MinInt, 0, 0},
		{-5, 4097, 0, 4096}, {math.MaxInt, -5, 4096, 0}, {0, math.MaxInt, 0, 4096}, {9999, 0, 4096, 0},
		{4096, 1, 4096, 1}, {4097, 1, 4096, 1}, {1, 4097, 1, 4096}, {math.MaxInt, 2, 4096, 2}, {2, 1 << 32, 2, 4096}, {1<<32 + 1, 1, 4096, 1},
		{math.MaxInt, 64, 4096, 64}, {64, math.MaxInt, 64, 4096}, {4097, 64, 4096, 64}, {1, api.MaxCells, 1, 4096}, {api.MaxCells, 1, 4096, 1},
		{512, 512, 512, 512}, {513, 512, 0, 0}, {512, 513, 0, 0}, {4096, 65, 0, 0}, {65, 4096, 0, 0}, {math.MaxInt, 65, 0, 0}, {65, 4097, 0, 0},
		{65, 4033, 0, 0}, {545, 481, 0, 0}, // one more than MaxCells
		{4096, 4096, 0, 0}, {4097, 4097, 0, 0}, {math.MaxInt, math.MaxInt, 0, 0}, {1 << 32, 1 << 32, 0, 0}, {1 << 16, 1 << 16, 0, 0},
		{1, api.MaxCells + 1, 1, 4096}, {63, 4161, 63, 4096}, {262145, 1, 4096, 1}, {87381, 3, 4096, 3}, {509, 515, 509, 515}, {257, 1020, 257, 1020}, {257, 1021, 0, 0},
	} {
		for _, w := range layouts() {
			want := of(x.r, x.c, w.f, make([]uint32, x.r*x.c)...)
			holdTensor(t, "P13.1: New of another shape", New(x.rows, x.cols, w.f), api.OK, want, api.OK)
		}
	}
}

// P13.1: a format that is none is Single, whatever the shape.
func TestNewOfNoFormat(t *testing.T) {
	for _, f := range noFormats() {
		holdTensor(t, "P13.1: New of no format", New(2, 3, f), api.OK, of(2, 3, api.Single, 0, 0, 0, 0, 0, 0), api.OK)
		holdTensor(t, "P13.1: New of no format, no rows", New(-1, 3, f), api.OK, of(0, 3, api.Single), api.OK)
		holdTensor(t, "P13.1: New of no format, too great", New(513, 512, f), api.OK, of(0, 0, api.Single), api.OK)
	}
}

// P13.1, P13.3: what New tells is right and finite, whatever it is asked.
func TestNewIsRight(t *testing.T) {
	ends := []int{math.MinInt, -4096, -1, 0, 1, 2, 63, 64, 65, 512, 513, 4095, 4096, 4097, math.MaxInt}
	for _, rows := range ends {
		for _, cols := range ends {
			for f := -2; f < 5; f++ {
				if x := New(rows, cols, f); !Right(x) || !Finite(x) || len(x.V) > api.MaxCells {
					t.Errorf("P13.1: New(%d, %d, %d) is wrong", rows, cols, f)
				}
			}
		}
	}
}
