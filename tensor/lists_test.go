package tensor

import (
	"math"
	"slices"
	"testing"

	"anneal/api"
)

// layout is what IEEE 754 (and the document, of Brain) says of a format, written out.
type layout struct {
	name                            string
	f, bits                         int
	mask, sign, inf, quiet, highest uint32
}

var half = layout{name: "Half", f: api.Half, bits: 16, mask: 0xffff, sign: 0x8000, inf: 0x7c00, quiet: 0x7e00, highest: 0x200}

var brain = layout{name: "Brain", f: api.Brain, bits: 16, mask: 0xffff, sign: 0x8000, inf: 0x7f80, quiet: 0x7fc0, highest: 0x40}

var single = layout{name: "Single", f: api.Single, bits: 32, mask: 0xffffffff, sign: 0x80000000, inf: 0x7f800000, quiet: 0x7fc00000, highest: 0x400000}

// layouts are the three formats.
func layouts() []layout { return []layout{half, brain, single} }

// noFormats are numbers that no format is named by.
func noFormats() []int {
	return []int{-1, 3, 4, 7, 255, 256, 1 << 31, 1 << 32, 1<<32 + 1, -1 << 32, math.MaxInt, math.MinInt}
}

// shape is how many rows, how many columns.
type shape struct{ rows, cols int }

// shapes are some that may be: ordinary ones, those of nothing, and the widest.
func shapes() []shape {
	return []shape{
		{1, 1}, {1, 5}, {5, 1}, {2, 3}, {3, 2}, {4, 4}, {7, 13}, {16, 5},
		{0, 0}, {0, 1}, {1, 0}, {0, 5}, {5, 0}, {0, 4096}, {4096, 0},
		{4096, 1}, {1, 4096}, {4096, 2}, {3, 4096},
	}
}

// chain is numbers without a pattern, the same in each run.
type chain uint64

// next tells one more of them.
func (c *chain) next() uint32 {
	*c ^= *c << 13
	*c ^= *c >> 7
	*c ^= *c << 17
	return uint32(*c >> 32)
}

// of tells a tensor of numbers' bits.
func of(rows, cols, f int, l ...uint32) api.Tensor {
	return api.Tensor{Rows: rows, Cols: cols, F: f, V: l}
}

// some tells a tensor in which no number is another one (of 16 bits: not soon).
func (w layout) some(rows, cols int) api.Tensor {
	t := of(rows, cols, w.f)
	for i := range rows * cols {
		t.V = append(t.V, uint32(i)*0x9e3779b1&w.mask)
	}
	return t
}

// mixed tells a tensor of numbers without a pattern, each other one at exponents that a Half has.
func (w layout) mixed(rows, cols int) api.Tensor {
	t, c := of(rows, cols, w.f), chain(0x9e3779b97f4a7c15)
	for i := range rows * cols {
		a := c.next()
		switch {
		case i%2 == 1 && w.f == api.Single:
			a = a&0x807fffff | (95+a>>3%50)<<23
		case i%2 == 1 && w.f == api.Brain:
			a = a&0x807f | (95+a>>17%50)<<7
		}
		t.V = append(t.V, a&w.mask)
	}
	return t
}

// alike tells whether got is want to the last field; a list of nothing is one that isn't there.
func alike(got, want api.Tensor) bool {
	return got.Rows == want.Rows && got.Cols == want.Cols && got.F == want.F && slices.Equal(got.V, want.V)
}

// holdTensor holds a call's tensor and its error against those that are wanted.
func holdTensor(t *testing.T, what string, got api.Tensor, e api.Errno, want api.Tensor, wantErr api.Errno) {
	t.Helper()
	switch {
	case e != wantErr:
		t.Errorf("%s: error %d, not %d", what, e, wantErr)
	case alike(got, want):
	case len(got.V) > 50:
		t.Errorf("%s: %d times %d of format %d, %d numbers, are not as wanted", what, got.Rows, got.Cols, got.F, len(got.V))
	default:
		t.Errorf("%s: %d times %d of format %d: %#x, not %d times %d of format %d: %#x", what, got.Rows, got.Cols, got.F, got.V, want.Rows, want.Cols, want.F, want.V)
	}
}

// wrong are tensors that aren't right, each for one reason.
func wrong() []api.Tensor {
	l := wrongShapes()
	for _, f := range noFormats() {
		l = append(l, of(0, 0, f), of(1, 1, f, 0), of(2, 2, f, 0, 0, 0, 0), of(0, 7, f))
	}
	for _, w := range layouts() {
		l = append(l, w.wrongCounts()...)
		for bit := w.bits; bit < 32; bit++ {
			for _, at := range []int{0, 1, 3, 4, 5} {
				t := w.some(2, 3)
				t.V[at] |= 1 << bit
				l = append(l, t)
			}
			l = append(l, of(1, 1, w.f, 1<<bit), of(1, 1, w.f, w.mask|1<<bit))
		}
	}
	return append(l, of(1, 1, api.Half, 0x3f800000), of(1, 1, api.Brain, 0xffffffff), of(1, 2, api.Half, 0, 0x10000))
}

// wrongShapes are tensors of rows, columns that may not be, with as many numbers as they say, where there may be so many.
func wrongShapes() []api.Tensor {
	l := []api.Tensor{of(4097, 1, api.Half, make([]uint32, 4097)...), of(1, 4097, api.Brain, make([]uint32, 4097)...)}
	for _, n := range []int{-1, -2, -4096, math.MinInt, math.MinInt + 1, 4097, 4098, 8192, 1 << 16, 1 << 32, math.MaxInt} {
		for _, w := range layouts() {
			l = append(l, of(n, 0, w.f), of(0, n, w.f), of(n, n, w.f), of(n, 1, w.f), of(1, n, w.f), of(n, n, w.f, 0), of(n, -1, w.f, 0), of(-1, n, w.f, 0))
		}
	}
	for n := -3; n < 0; n++ { // as many numbers as the product says
		l = append(l, of(n, n, api.Half, make([]uint32, n*n)...), of(n, -2, api.Single, make([]uint32, n*-2)...))
	}
	return l
}

// wrongCounts are tensors of format w with too few numbers, and with too many.
func (w layout) wrongCounts() []api.Tensor {
	var l []api.Tensor
	for _, s := range shapes() {
		n := s.rows * s.cols
		l = append(l, of(s.rows, s.cols, w.f, make([]uint32, n+1)...), of(s.rows, s.cols, w.f, make([]uint32, n+s.cols+1)...))
		if n > 0 {
			few := make([]uint32, n)
			l = append(l, of(s.rows, s.cols, w.f, few[:n-1]...), of(s.rows, s.cols, w.f, few[:0]...), of(s.rows, s.cols, w.f))
		}
	}
	return l
}
