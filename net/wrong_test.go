package net

import (
	"slices"
	"testing"

	"anneal/api"
)

// asked is all that a net is asked, forwards and back.
type asked struct {
	c     api.Config
	p     []api.Param
	w     []api.Tensor
	x     api.Tensor
	micro int
	left  Trace
	d     api.Tensor
}

// right tells what may be asked, of so many rows.
func right(t *testing.T, c api.Config, rows int) asked {
	t.Helper()
	f := layouts()[c.F]
	p := params(c.Widths, single.light, 3)
	x := f.near(rows, c.Widths[0], 4)
	w := low(t, c, p, 0)
	_, left := forward(t, c, p, w, x, 0)
	return asked{c, p, w, x, 0, left, f.near(rows, c.Widths[len(p)], 5)}
}

// rights are some of all sorts, of which each tensor has numbers.
func rights(t *testing.T) []asked {
	var l []asked
	for i, widths := range [][]int{{2, 3}, {1, 1}, {3, 2, 4}, {1, 1, 1}, {2, 2, 2, 2}, {4, 3, 1, 5}} {
		for k, f := range layouts() {
			c := config(f, (i+k)%4, widths...)
			c.Drop = 1 << 30 * uint32(k%2)
			l = append(l, right(t, c, 1+(i+k)%3))
		}
	}
	return l
}

// forwardFails holds Forward against ErrShape and nothing beside it.
func forwardFails(t *testing.T, what string, a asked) {
	t.Helper()
	z, left, e := Forward(a.c, a.p, a.w, a.x, a.micro)
	if e != api.ErrShape || !alike(z, api.Tensor{}) || len(left.X) != 0 || len(left.Z) != 0 || len(left.K) != 0 {
		t.Errorf("P17.2: Forward of %s, %v: %v, %v, error %d", what, a.c.Widths, z, left, e)
	}
}

// backFails holds Back against ErrShape and nothing beside it.
func backFails(t *testing.T, what string, a asked) {
	t.Helper()
	if g, e := Back(a.c, a.p, a.w, a.left, a.d); e != api.ErrShape || len(g) != 0 {
		t.Errorf("P17.3: Back of %s, %v: of %d layers, error %d", what, a.c.Widths, len(g), e)
	}
}

// holdRight holds that both calls take what is asked: so just what is changed of it is wrong.
func holdRight(t *testing.T, what string, a asked) {
	t.Helper()
	if _, _, e := Forward(a.c, a.p, a.w, a.x, a.micro); e != api.OK {
		t.Errorf("P17.2: Forward of %s, %v: error %d", what, a.c.Widths, e)
	}
	if _, e := Back(a.c, a.p, a.w, a.left, a.d); e != api.OK {
		t.Errorf("P17.3: Back of %s, %v: error %d", what, a.c.Widths, e)
	}
}

// wrongLists are lists of tensors that are too few, too many, or have a wrong one, each for one reason.
func wrongLists(l []api.Tensor) [][]api.Tensor {
	n := len(l)
	wrong := [][]api.Tensor{nil, {}, l[:n-1], append(l[:n:n], l[n-1]), append(l[:n:n], api.Tensor{}), append([]api.Tensor{l[0]}, l...), slices.Repeat(l, 2), slices.Repeat(l, 64)}
	for i, one := range l {
		for _, o := range others(one) {
			changed := slices.Clone(l)
			changed[i] = o
			wrong = append(wrong, changed)
		}
		for k, two := range l[:i] {
			if one.Rows != two.Rows || one.Cols != two.Cols {
				changed := slices.Clone(l)
				changed[i], changed[k] = two, one
				wrong = append(wrong, changed)
			}
		}
	}
	return slices.DeleteFunc(wrong, func(x []api.Tensor) bool { return len(x) == n && slices.EqualFunc(x, l, alike) })
}

// P17.2, P17.3: of params that aren't the net's shape there is ErrShape, whatever else is right.
func TestOfWrongParams(t *testing.T) {
	for _, a := range rights(t) {
		holdRight(t, "what may be asked", a)
		for _, a.p = range wrongParams(a.p) {
			forwardFails(t, "wrong params", a)
			backFails(t, "wrong params", a)
		}
	}
}

// P17.2, P17.3: of weights that are too few, too many, of another shape, of another
// format (p's own among them), not right, layer by layer, there is ErrShape.
func TestOfWrongWeights(t *testing.T) {
	for _, a := range rights(t) {
		for _, a.w = range wrongLists(a.w) {
			forwardFails(t, "wrong weights", a)
			backFails(t, "wrong weights", a)
		}
	}
}

// P17.2: of an x of other columns, of another format, not right, there is ErrShape; of other rows there is none.
func TestOfWrongRows(t *testing.T) {
	for _, a := range rights(t) {
		f := layouts()[a.c.F]
		for _, rows := range []int{0, 1, 2, 3, 4, 9} {
			a.x = f.near(rows, a.c.Widths[0], 7)
			holdRight(t, "other rows", a)
		}
		x := f.near(3, a.c.Widths[0], 7)
		for _, a.x = range others(x) {
			if a.x.Cols == x.Cols && a.x.F == x.F && a.x.Rows >= 0 && a.x.Rows < 9 && len(a.x.V) == a.x.Rows*a.x.Cols && slices.Max(append(a.x.V, 0)) <= f.mask() {
				continue // just of other rows
			}
			forwardFails(t, "a wrong x", a)
		}
	}
}

// P17.3: of a d of other rows, other columns, another format, not right, there is ErrShape.
func TestOfWrongGradients(t *testing.T) {
	for _, a := range rights(t) {
		for _, a.d = range others(a.d) {
			backFails(t, "a wrong d", a)
		}
	}
}

// P17.3: of a trace of which X, Z or K is too few, too many, of another shape, of another
// format, not right, layer by layer, there is ErrShape.
func TestOfWrongTraces(t *testing.T) {
	for _, a := range rights(t) {
		whole := a.left
		for _, l := range wrongLists(whole.X) {
			a.left = Trace{X: l, Z: whole.Z, K: whole.K}
			backFails(t, "a wrong X", a)
		}
		for _, l := range wrongLists(whole.Z) {
			a.left = Trace{X: whole.X, Z: l, K: whole.K}
			backFails(t, "a wrong Z", a)
		}
		for _, l := range [][]api.Tensor{nil, whole.K[1:], append(slices.Clone(whole.K), api.Tensor{}), slices.Repeat(whole.K, 2)} {
			a.left = Trace{X: whole.X, Z: whole.Z, K: l}
			backFails(t, "a wrong K", a)
		}
		for _, a.left = range []Trace{{}, {X: whole.X}, {Z: whole.Z}, {K: whole.K}, {X: whole.X, Z: whole.Z}, {X: whole.Z, Z: whole.X[1:], K: whole.K}} {
			backFails(t, "a trace of parts", a)
		}
	}
}

// P17.3: each layer's mask is of nothing, or a Single one of its sums' shape; of any other there is ErrShape.
func TestOfWrongMasks(t *testing.T) {
	for _, a := range rights(t) {
		whole := a.left
		for i, z := range whole.Z {
			mask := single.near(z.Rows, z.Cols, 8)
			wrong := append(others(mask), of(0, 0, api.Brain), of(0, 0, api.Single), of(0, 0, -1), of(0, 1, 0), of(1, 0, 0), of(0, 0, 0, 0))
			for _, k := range append(wrong, api.Tensor{}, mask) {
				a.left = Trace{X: whole.X, Z: whole.Z, K: slices.Clone(whole.K)}
				a.left.K[i] = k
				if alike(k, api.Tensor{}) || alike(k, mask) {
					holdRight(t, "a mask that may be", a)
				} else {
					backFails(t, "a wrong mask", a)
				}
			}
		}
	}
}

// P17.3: the rows are X's first one's: what has others, though they are right by
// themselves, is refused; what has them all is taken.
func TestOfOtherRows(t *testing.T) {
	for _, widths := range [][]int{{2, 3}, {3, 2, 4}, {2, 2, 2, 2}} {
		for _, f := range layouts() {
			c := config(f, api.Relu, widths...)
			c.Drop = 1 << 30
			a, b := right(t, c, 2), right(t, c, 3)
			holdRight(t, "three rows", b)
			for what, x := range map[string]asked{
				"more rows back":  {c: c, p: a.p, w: a.w, left: a.left, d: b.d},
				"fewer rows back": {c: c, p: a.p, w: a.w, left: b.left, d: a.d},
				"other X":         {c: c, p: a.p, w: a.w, left: Trace{X: b.left.X, Z: a.left.Z, K: a.left.K}, d: a.d},
				"other Z":         {c: c, p: a.p, w: a.w, left: Trace{X: a.left.X, Z: b.left.Z, K: a.left.K}, d: a.d},
				"other X and d":   {c: c, p: a.p, w: a.w, left: Trace{X: b.left.X, Z: a.left.Z, K: a.left.K}, d: b.d},
			} {
				backFails(t, what, x)
			}
			if len(widths) > 2 {
				backFails(t, "other K", asked{c: c, p: a.p, w: a.w, left: Trace{X: a.left.X, Z: a.left.Z, K: b.left.K}, d: a.d})
			}
		}
	}
}

// P17.2, P17.3: where several are wrong there is ErrShape as well.
func TestOfAllWrong(t *testing.T) {
	for _, a := range rights(t) {
		a.p, a.w, a.x, a.d = a.p[:len(a.p)-1], nil, api.Tensor{Rows: -1}, api.Tensor{F: 9}
		forwardFails(t, "all that is wrong", a)
		backFails(t, "all that is wrong", a)
		a.left = Trace{}
		backFails(t, "all that is wrong", a)
		forwardFails(t, "nothing", asked{c: a.c})
		backFails(t, "nothing", asked{c: a.c})
	}
}

// P17.2: the room behind lists' ends is no part of what is asked.
func TestRoomSaysNothing(t *testing.T) {
	a := right(t, config(half, api.Relu, 2, 3, 1), 2)
	short := a
	short.p, short.w = a.p[:1], a.w[:2]
	forwardFails(t, "a layer in the room", short)
	short.p, short.w = a.p, a.w[:1]
	forwardFails(t, "a layer in the room", short)
	backFails(t, "a layer in the room", short)
	short = a
	short.left.X = a.left.X[:1]
	backFails(t, "a layer in the room", short)
}

// P17.2, P17.3: rows times a width are at most MaxCells, of whatever layer; of one row more there is ErrShape.
func TestAtMost(t *testing.T) {
	for _, x := range []struct {
		widths []int
		most   int
	}{{[]int{4096, 1}, 64}, {[]int{1, 4096}, 64}, {[]int{1, 4096, 1}, 64}, {[]int{2, 1, 4096}, 64}, {[]int{1, 4032, 1}, 65}, {[]int{1, 4033, 1}, 64}, {[]int{1, 3, 128, 2}, 2048}, {[]int{64, 1}, 4096}, {[]int{1, 65}, 4032}, {[]int{513, 1}, 511}, {[]int{512, 1, 1}, 512}, {[]int{1, 2, 1}, 4096}, {[]int{1, 1, 1}, 4096}} {
		for _, f := range layouts() {
			c := config(f, api.Relu, x.widths...)
			c.Drop = 1 << 30
			p := params(c.Widths, single.light, 3)
			w := low(t, c, p, 0)
			for _, rows := range []int{x.most, x.most + 1, 2 * x.most} {
				a := asked{c: c, p: p, w: w, x: f.light(rows, c.Widths[0], 4), d: f.light(rows, c.Widths[len(p)], 5)}
				for i := range p {
					a.left.X = append(a.left.X, f.light(rows, c.Widths[i], 6))
					a.left.Z = append(a.left.Z, f.light(rows, c.Widths[i+1], 7))
				}
				a.left.K = make([]api.Tensor, len(p))
				if rows > x.most {
					forwardFails(t, "too many rows", a)
					backFails(t, "too many rows", a)
				} else if f.f == api.Brain {
					holdRight(t, "as many rows as may be", a)
				}
			}
		}
	}
}

// P17.2, P17.3: of as many numbers as there may be, the last ones too.
func TestOfMost(t *testing.T) {
	c := config(half, api.Relu, 2, 512, 1)
	c.Drop = 1 << 30
	p, x := params(c.Widths, single.light, 3), half.near(512, 2, 4)
	w := low(t, c, p, 9)
	z, left := forward(t, c, p, w, x, 9)
	wantZ, want := forwards(c, p, w, x, 9)
	holdTensor(t, "P17.2: Forward of most", z, wantZ)
	holdTrace(t, "P17.2: Forward of most", left, want)
	d := half.near(512, 1, 5)
	holdParams(t, "P17.3: Back of most", back(t, c, p, w, left, d), backwards(c, w, left, d))
}
