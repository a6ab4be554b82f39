package net

import (
	"math"
	"slices"
	"testing"

	"anneal/api"
)

// others are tensors that aren't of t's shape and format, or aren't right, each for one
// reason; t has rows, columns and numbers.
func others(t api.Tensor) []api.Tensor {
	more := func(rows, cols int) api.Tensor { return of(rows, cols, t.F, make([]uint32, rows*cols)...) }
	n := len(t.V)
	l := []api.Tensor{
		{}, more(t.Rows-1, t.Cols), more(t.Rows+1, t.Cols), more(t.Rows, t.Cols-1), more(t.Rows, t.Cols+1), more(t.Rows+1, t.Cols+1), more(2*t.Rows, t.Cols), more(t.Rows, 2*t.Cols), more(0, 0), more(t.Rows, 0), more(0, t.Cols+1),
		of(t.Rows, t.Cols, t.F, t.V[:n-1]...), of(t.Rows, t.Cols, t.F), of(t.Rows, t.Cols, t.F, slices.Concat(t.V, []uint32{0})...), of(t.Rows, t.Cols, t.F, slices.Repeat(t.V, 2)...),
		of(-t.Rows, -t.Cols, t.F, t.V...), of(-1, t.Cols, t.F), of(t.Rows, -1, t.F), of(math.MinInt, t.Cols, t.F), of(t.Rows, math.MaxInt, t.F), of(t.Rows+1<<32, t.Cols, t.F, t.V...), of(t.Rows, t.Cols+1<<32, t.F, t.V...),
	}
	if t.Rows != t.Cols {
		l = append(l, of(t.Cols, t.Rows, t.F, t.V...))
	}
	if t.Rows != 1 && t.Cols != 1 {
		l = append(l, of(1, n, t.F, t.V...), of(n, 1, t.F, t.V...))
	}
	for _, f := range []int{-1, 3, t.F + 4, t.F + 256, t.F + 1<<32, math.MinInt, math.MaxInt} {
		l = append(l, of(t.Rows, t.Cols, f, t.V...))
	}
	for _, w := range layouts() {
		if w.f != t.F {
			l = append(l, w.near(t.Rows, t.Cols, 5), of(t.Rows, t.Cols, w.f, make([]uint32, n)...))
		} else if w.bits < 32 {
			l = append(l, tooHigh(t, 0, 16), tooHigh(t, n-1, 16), tooHigh(t, n/2, 31))
		}
	}
	return l
}

// tooHigh is t, where one number has a bit that is none of its format's.
func tooHigh(t api.Tensor, place, bit int) api.Tensor {
	t.V = slices.Clone(t.V)
	t.V[place] |= 1 << bit
	return t
}

// wrongParams are params that aren't p's shape, each for one reason.
func wrongParams(p []api.Param) [][]api.Param {
	n := len(p)
	l := [][]api.Param{nil, {}, p[:n-1], p[1:], append(p[:n:n], p[n-1]), append(p[:n:n], p[0]), append(p[:n:n], api.Param{}), slices.Repeat(p, 2)}
	for i, q := range p {
		with := func(w, b api.Tensor) {
			changed := slices.Clone(p)
			changed[i] = api.Param{W: w, B: b}
			l = append(l, changed)
		}
		for _, w := range others(q.W) {
			with(w, q.B)
		}
		for _, b := range others(q.B) {
			with(q.W, b)
		}
		with(q.B, q.W)
		with(api.Tensor{}, api.Tensor{})
	}
	// one layer's in the place of another's, if they aren't of one shape
	for i := range n - 1 {
		if p[i].W.Rows != p[i+1].W.Rows || p[i].W.Cols != p[i+1].W.Cols {
			changed := slices.Clone(p)
			changed[i], changed[i+1] = p[i+1], p[i]
			l = append(l, changed)
		}
	}
	return slices.DeleteFunc(l, func(x []api.Param) bool { return len(x) == n && fits(x, p) })
}

// fits tells whether x has p's shapes; it is asked of those that are all right.
func fits(x, p []api.Param) bool {
	one := func(a, b api.Tensor) bool {
		return a.Rows == b.Rows && a.Cols == b.Cols && a.F == b.F && len(a.V) == a.Rows*a.Cols
	}
	for i := range p {
		if !one(x[i].W, p[i].W) || !one(x[i].B, p[i].B) {
			return false
		}
	}
	return true
}

// P17.1: a param for each layer, one less than widths: as many weights in a row as go in,
// as many rows and biases as go out, all Singles, of whatever kind; the format that c
// goes forwards in says nothing.
func TestShape(t *testing.T) {
	for _, widths := range manyWidths() {
		for _, w := range layouts() {
			for i, made := range []maker{single.near, single.tiny, single.mixed, single.few, func(rows, cols int, _ uint64) api.Tensor {
				return of(rows, cols, api.Single, make([]uint32, rows*cols)...)
			}} {
				if c := config(w, api.Gelu, widths...); !Shape(c, params(widths, made, 7)) {
					t.Errorf("P17.1: params %d of %v aren't its shape, where it is of %s", i, widths, w.name)
				}
			}
		}
	}
}

// P17.1: shapes that are written out.
func TestShapeRows(t *testing.T) {
	tensor := func(rows, cols int) api.Tensor { return single.near(rows, cols, 3) }
	for i, x := range []struct {
		widths []int
		p      []api.Param
		want   bool
	}{
		{[]int{3, 2}, []api.Param{{W: tensor(2, 3), B: tensor(1, 2)}}, true},
		{[]int{3, 2}, []api.Param{{W: tensor(3, 2), B: tensor(1, 2)}}, false},
		{[]int{3, 2}, []api.Param{{W: tensor(2, 3), B: tensor(1, 3)}}, false},
		{[]int{3, 2}, []api.Param{{W: tensor(2, 3), B: tensor(2, 1)}}, false},
		{[]int{3, 2}, []api.Param{{W: tensor(1, 2), B: tensor(2, 3)}}, false},
		{[]int{2, 3}, []api.Param{{W: tensor(2, 3), B: tensor(1, 2)}}, false},
		{[]int{1, 1}, []api.Param{{W: tensor(1, 1), B: tensor(1, 1)}}, true},
		{[]int{1, 1}, []api.Param{{W: tensor(1, 1)}}, false},
		{[]int{1, 1}, nil, false},
		{[]int{4, 1, 2}, []api.Param{{W: tensor(1, 4), B: tensor(1, 1)}, {W: tensor(2, 1), B: tensor(1, 2)}}, true},
		{[]int{4, 1, 2}, []api.Param{{W: tensor(2, 1), B: tensor(1, 2)}, {W: tensor(1, 4), B: tensor(1, 1)}}, false},
		{[]int{4, 1, 2}, []api.Param{{W: tensor(1, 4), B: tensor(1, 1)}}, false},
		{[]int{4, 1, 2}, []api.Param{{W: tensor(1, 4), B: tensor(1, 1)}, {W: tensor(2, 1), B: tensor(1, 2)}, {W: tensor(2, 2), B: tensor(1, 2)}}, false},
		{[]int{4096, 15}, []api.Param{{W: tensor(15, 4096), B: tensor(1, 15)}}, true},
		{[]int{15, 4096}, []api.Param{{W: tensor(4096, 15), B: tensor(1, 4096)}}, true},
		{[]int{15, 4096}, []api.Param{{W: tensor(4095, 15), B: tensor(1, 4096)}}, false},
		{[]int{15, 4096}, []api.Param{{W: tensor(4096, 15), B: tensor(1, 4095)}}, false},
	} {
		for _, w := range layouts() {
			c := config(w, api.Relu, x.widths...)
			if got := Shape(c, x.p); got != x.want {
				t.Errorf("P17.1: Shape of row %d, %v, is %v", i, x.widths, got)
			}
			l, e := Low(c, x.p, 0)
			if x.want && (e != api.OK || len(l) != len(x.p)) || !x.want && (e != api.ErrShape || len(l) != 0) {
				t.Errorf("P17.1: Low of row %d, %v, is of %d layers, error %d", i, x.widths, len(l), e)
			}
		}
	}
}

// P17.1: params that are too few, too many, of another shape, of another format, not
// right, in each layer, are no shape of the net; Low tells ErrShape of them and no tensors.
func TestWrongShape(t *testing.T) {
	for _, widths := range manyWidths() {
		if len(widths) > 9 {
			widths = widths[:9]
		}
		for _, isChance := range []bool{false, true} {
			c := config(brain, api.Tanh, widths...)
			c.Chance = isChance
			for i, p := range wrongParams(params(widths, single.near, 3)) {
				if Shape(c, p) {
					t.Errorf("P17.1: wrong params %d of %v are its shape", i, widths)
				}
				if w, e := Low(c, p, 0); e != api.ErrShape || len(w) != 0 {
					t.Errorf("P17.1: Low of wrong params %d of %v is of %d layers, error %d", i, widths, len(w), e)
				}
			}
		}
	}
}

// P17.1: of as many layers as there may be, one that is wrong is seen wherever it is.
func TestWrongDeepShape(t *testing.T) {
	c := config(half, api.Relu, deep()...)
	p := params(c.Widths, single.near, 3)
	if !Shape(c, p) {
		t.Error("P17.1: the deepest net's params aren't its shape")
	}
	for i := range p {
		for _, q := range []api.Param{{W: p[i].W, B: of(p[i].B.Rows, p[i].B.Cols, api.Single)}, {W: of(p[i].W.Rows, p[i].W.Cols, api.Single), B: p[i].B}} {
			changed := slices.Clone(p)
			changed[i] = q
			if Shape(c, changed) {
				t.Errorf("P17.1: params of which layer %d is wrong are the deepest net's shape", i)
			}
		}
	}
}

// P17.1, P17.2, P17.3: whatever is asked of a config that may not be, there is an answer; of no layers, too.
func TestShapeOfNoConfig(t *testing.T) {
	p := params([]int{2, 3}, single.near, 3)
	for _, widths := range [][]int{nil, {}, {2}, {0}, {-1}, {2, -3}, {-2, 3}, {0, 0}, {0, 3}, {2, 0}, {math.MinInt, math.MaxInt}, {1 << 32, 1 << 32}, {4097, 1}, slices.Repeat([]int{1}, 100)} {
		for _, f := range []int{-1, 0, 2, 3} {
			c := config(half, 9, widths...)
			c.F = f
			for _, q := range [][]api.Param{nil, p, make([]api.Param, 1), make([]api.Param, 99), params(slices.Repeat([]int{1}, 100), single.near, 3)} {
				Shape(c, q)
				w, _ := Low(c, q, 0)
				for _, x := range []api.Tensor{{}, half.near(1, 2, 3), half.near(1, 1, 3), of(0, 0, f)} {
					z, left, _ := Forward(c, q, w, x, 0)
					Back(c, q, w, left, z)
					Back(c, q, w, Trace{}, api.Tensor{})
				}
			}
		}
	}
}

// P17.1, P17.2, P17.3: of a format or an activation that is none, too, nothing stands beside an error.
func TestNothingBesideErrorsOfNoConfig(t *testing.T) {
	a := right(t, config(half, api.Relu, 2, 3, 2), 4)
	for _, kind := range []int{-1, 4, math.MaxInt} {
		a.c.Act = kind
		z, left, e := Forward(a.c, a.p, a.w, a.x, 0)
		if e == api.OK || !alike(z, api.Tensor{}) || len(left.X) != 0 || len(left.Z) != 0 || len(left.K) != 0 {
			t.Errorf("P17.2: Forward of activation %d: %v, %v, error %d", kind, z, left, e)
		}
		if g, e := Back(a.c, a.p, a.w, a.left, a.d); e == api.OK || len(g) != 0 {
			t.Errorf("P17.3: Back of activation %d: of %d layers, error %d", kind, len(g), e)
		}
	}
	for _, f := range []int{-1, 3, math.MaxInt} {
		for _, a.c.Chance = range []bool{false, true} {
			a.c.F = f
			if w, e := Low(a.c, a.p, 0); e == api.OK || len(w) != 0 {
				t.Errorf("P17.1: Low in format %d: of %d layers, error %d", f, len(w), e)
			}
			forwardFails(t, "no format", a)
			backFails(t, "no format", a)
		}
	}
}
