package kern

import (
	"math"
	"testing"

	"anneal/api"
)

// multiplication is what the document says of m by k and k by n, by all i, j.
func multiplication(a, b api.Tensor) api.Tensor {
	told := of(a.Rows, b.Cols, api.Single)
	x, y := widened(a), widened(turned(b))
	for i := range a.Rows {
		for j := range b.Cols {
			told.V = append(told.V, dotted(x[i*a.Cols:(i+1)*a.Cols], y[j*a.Cols:(j+1)*a.Cols]))
		}
	}
	return told
}

// holdProducts holds each of the products, of a (m by k) and b (k by n) as it takes them.
func holdProducts(t *testing.T, what string, a, b, want api.Tensor) {
	t.Helper()
	for _, p := range products() {
		got, e := p.call(p.fits(a, b))
		holdTensor(t, what+": "+p.name, got, e, want, api.OK)
	}
}

// P14.1: numbers that are written out, in each two formats.
func TestProductRows(t *testing.T) {
	for _, x := range []struct {
		m, k, n    int
		a, b, want []int
	}{
		{1, 1, 1, []int{3}, []int{-4}, []int{-12}},
		{2, 3, 2, []int{1, 2, 3, 4, 5, 6}, []int{7, 8, 9, 10, 11, 12}, []int{58, 64, 139, 154}},
		{1, 3, 2, []int{1, -2, 3}, []int{1, 2, 3, 4, 5, 6}, []int{10, 12}},
		{3, 1, 2, []int{1, 2, 3}, []int{10, -20}, []int{10, -20, 20, -40, 30, -60}},
		{2, 2, 2, []int{0, 1, 1, 0}, []int{5, 6, 7, 8}, []int{7, 8, 5, 6}},
		{2, 2, 3, []int{1, 2, 3, 4}, []int{1, 0, 2, 0, 1, 3}, []int{1, 2, 8, 3, 4, 18}},
		{1, 4, 1, []int{1, 2, 3, 4}, []int{4, 3, 2, 1}, []int{20}},
		{4, 1, 1, []int{1, 2, 3, 4}, []int{32}, []int{32, 64, 96, 128}},
	} {
		want := of(x.m, x.n, api.Single)
		for _, v := range x.want {
			want.V = append(want.V, math.Float32bits(float32(v)))
		}
		for _, v := range layouts() {
			for _, w := range layouts() {
				holdProducts(t, "P14.1: "+v.name+" by "+w.name, v.small(x.m, x.k, x.a...), w.small(x.k, x.n, x.b...), want)
			}
		}
	}
}

// P14.1: which numbers meet: where all but one place of each tensor are noughts, the
// product is at one place, of k's that are the same.
func TestPlacesOfProducts(t *testing.T) {
	const m, k, n = 2, 3, 4
	for i := range m * k {
		for j := range k * n {
			a, b, want := of(m, k, api.Half, make([]uint32, m*k)...), of(k, n, api.Brain, make([]uint32, k*n)...), of(m, n, api.Single, make([]uint32, m*n)...)
			a.V[i], b.V[j] = 0x4000, 0x4040
			if i%k == j/n {
				want.V[i/k*n+j%n] = 0x40c00000
			}
			holdProducts(t, "P14.1", a, b, want)
		}
	}
}

// P14.1: tensors without a pattern, of all shapes, in each two formats, at each place as the document says.
func TestProductsAreDots(t *testing.T) {
	for i, s := range []struct{ m, k, n int }{
		{1, 1, 1}, {2, 3, 4}, {4, 3, 2}, {3, 3, 3}, {1, 9, 1}, {9, 1, 9}, {7, 13, 5}, {5, 16, 8}, {16, 16, 16}, {1, 33, 7}, {12, 5, 1},
	} {
		for _, v := range layouts() {
			for _, w := range layouts() {
				seed := uint64(i + 1)
				a, b := v.near(s.m, s.k, seed), w.near(s.k, s.n, seed+100)
				holdProducts(t, "P14.1: near 1.0, "+v.name+" by "+w.name, a, b, multiplication(a, b))
				a, b = v.mixed(s.m, s.k, seed+200), w.mixed(s.k, s.n, seed+300)
				holdProducts(t, "P14.1: mixed, "+v.name+" by "+w.name, a, b, multiplication(a, b))
			}
		}
	}
}

// P14.1: numbers of other formats are widened, not rounded, nor what is told of them:
// subnormal ones, the greatest ones, infinities, NaNs.
func TestProductsAreOfSingles(t *testing.T) {
	for _, x := range []struct {
		v, w       layout
		a, b, want uint32
	}{
		{half, half, 0x0001, 0x0001, 0x27800000},
		{half, half, 0x7bff, 0x7bff, 0x4f7fc004},
		{half, half, 0x3c01, 0x3c01, 0x3f804008},
		{half, brain, 0x03ff, 0x3f81, 0x3880dfc0},
		{brain, brain, 0x0001, 0x3f80, 0x00010000},
		{brain, brain, 0x0001, 0x0001, 0x00000000},
		{brain, brain, 0x8001, 0x0001, 0x80000000},
		{brain, brain, 0x7f7f, 0x4000, 0x7f800000},
		{brain, single, 0x3f81, 0x3f800001, 0x3f810001},
		{half, single, 0x8001, 0x00000001, 0x80000000},
		{half, half, 0x7c00, 0x3c00, 0x7f800000},
		{half, brain, 0xfc00, 0x3f80, 0xff800000},
		{half, brain, 0xfc00, 0x0000, plainNan},
		{half, half, 0x7c01, 0x3c00, plainNan},
		{brain, half, 0xffc1, 0x3c00, plainNan},
		{single, brain, 0xff800001, 0x3f80, plainNan},
	} {
		holdProducts(t, "P14.1: "+x.v.name+" by "+x.w.name, of(1, 1, x.v.f, x.a), of(1, 1, x.w.f, x.b), of(1, 1, api.Single, x.want))
		holdProducts(t, "P14.1: "+x.w.name+" by "+x.v.name, of(1, 1, x.w.f, x.b), of(1, 1, x.v.f, x.a), of(1, 1, api.Single, x.want))
	}
}

// P14.1: a product of edges is as the exact one, each with each, in one tensor.
func TestProductsOfEdges(t *testing.T) {
	l := edges()
	a, b := of(len(l), 1, api.Single, l...), of(1, len(l), api.Single, l...)
	holdProducts(t, "P14.1: of edges", a, b, multiplication(a, b))
	for _, v := range layouts() { // a NaN or an infinity at one place is seen in its row or its column alone
		for at := range 6 {
			a, b := v.small(2, 3, 1, 2, 3, 4, 5, 6), v.small(3, 2, 1, 2, 3, 4, 5, 6)
			for _, no := range []uint32{v.mask() >> 1, v.mask(), v.mask() >> 1 >> v.frac << v.frac, v.mask() >> v.frac << v.frac, v.mask()>>1>>v.frac<<v.frac | 1} {
				a.V[at] = no
				holdProducts(t, "P14.1: of no number in "+v.name, a, b, multiplication(a, b))
				a, b := turned(b), turned(a)
				holdProducts(t, "P14.1: of no number in "+v.name, a, b, multiplication(a, b))
			}
		}
	}
}

// P14.1: of no rows, no columns there is nothing; of a k of none each number is Zero,
// as many as there may be.
func TestProductsOfNothing(t *testing.T) {
	for _, s := range []struct{ m, k, n int }{
		{0, 0, 0}, {0, 0, 1}, {1, 0, 0}, {0, 1, 0}, {0, 3, 2}, {2, 3, 0}, {0, 4096, 0}, {4096, 3, 0}, {0, 3, 4096},
		{1, 0, 1}, {2, 0, 3}, {3, 0, 2}, {4096, 0, 0}, {0, 0, 4096}, {512, 0, 512}, {512, 0, 513}, {513, 0, 512}, {4096, 0, 65},
	} {
		want := of(s.m, s.n, api.Single, make([]uint32, s.m*s.n)...)
		for _, v := range layouts() {
			for _, w := range layouts() {
				holdProducts(t, "P14.1: of nothing", v.near(s.m, s.k, 1), w.near(s.k, s.n, 2), want)
			}
		}
	}
	most := of(4096, 4096, api.Single, make([]uint32, 1<<24)...)
	got, e := Plain(of(4096, 0, api.Half), of(0, 4096, api.Brain))
	holdTensor(t, "P14.1: of nothing, at most", got, e, most, api.OK)
}

// P14.1: the widest tensors, and more numbers than a tensor.New makes.
func TestProductsOfTheWidest(t *testing.T) {
	for _, s := range []struct{ m, k, n int }{{1, 4096, 1}, {2, 4096, 3}, {4096, 1, 2}, {2, 1, 4096}} {
		a, b := half.near(s.m, s.k, 5), brain.near(s.k, s.n, 6)
		holdProducts(t, "P14.1: of the widest", a, b, multiplication(a, b))
	}
	a, b := half.small(600, 1), brain.small(1, 500)
	for i := range 600 {
		a.V = append(a.V, half.wholes()[i%400+1])
	}
	for i := range 500 {
		b.V = append(b.V, brain.wholes()[i%300+1])
	}
	holdProducts(t, "P14.1: of more than MaxCells", a, b, multiplication(a, b))
}

// P14.1: each form is another one of tensors that are turned; and a product that is
// turned is that of the turned ones, the other way round.
func TestFormsAreTurned(t *testing.T) {
	for i, s := range []struct{ m, k, n int }{{1, 1, 1}, {2, 3, 4}, {5, 1, 3}, {1, 6, 1}, {3, 0, 2}, {0, 4, 2}, {2, 4, 0}, {6, 20, 5}} {
		for _, v := range layouts() {
			for _, w := range layouts() {
				for _, k := range [][2]api.Tensor{
					{v.near(s.m, s.k, uint64(i+1)), w.near(s.k, s.n, uint64(i+50))},
					{v.mixed(s.m, s.k, uint64(i+100)), w.mixed(s.k, s.n, uint64(i+150))},
				} {
					a, b := k[0], k[1]
					plain, e := Plain(a, b)
					holdProducts(t, "P14.1: the same as Plain", a, b, plain)
					if e != api.OK {
						t.Errorf("P14.1: Plain of %v: error %d", s, e)
					}
					back, e := Plain(turned(b), turned(a))
					holdTensor(t, "P14.1: turned", back, e, turned(plain), api.OK)
					back, e = Rows(turned(b), a)
					holdTensor(t, "P14.1: turned by Rows", back, e, turned(plain), api.OK)
					back, e = Cols(b, turned(a))
					holdTensor(t, "P14.1: turned by Cols", back, e, turned(plain), api.OK)
				}
			}
		}
	}
}

// P14.1: a tensor beside itself: the product with the turned one is the same when it is turned.
func TestProductsOfTheSame(t *testing.T) {
	for _, w := range layouts() {
		x := w.near(5, 7, 9)
		got, e := Rows(x, x)
		holdTensor(t, "P14.1: Rows of the same", got, e, multiplication(x, turned(x)), api.OK)
		holdTensor(t, "P14.1: Rows of the same, turned", turned(got), e, got, api.OK)
		got, e = Cols(x, x)
		holdTensor(t, "P14.1: Cols of the same", got, e, multiplication(turned(x), x), api.OK)
		x = w.near(6, 6, 10)
		got, e = Plain(x, x)
		holdTensor(t, "P14.1: Plain of the same", got, e, multiplication(x, x), api.OK)
	}
}
