package tensor

import (
	"math"
	"slices"
	"testing"

	"anneal/api"
)

// askAll asks each call that has an error of x, and tells the errors by the calls'
// names; it fails if one tells something beside an error.
func askAll(t *testing.T, x api.Tensor, r, c, f int) map[string]api.Errno {
	t.Helper()
	told := map[string]api.Errno{}
	hold := func(name string, e api.Errno, nothing bool) {
		if told[name] = e; e != api.OK && !nothing {
			t.Errorf("P13.1: %s tells something beside error %d", name, e)
		}
	}
	v, e := At(x, r, c)
	hold("At", e, v == 0)
	l, e := Row(x, r)
	hold("Row", e, len(l) == 0)
	y, e := Turn(x)
	hold("Turn", e, alike(y, api.Tensor{}))
	y, e = Cast(x, f)
	hold("Cast", e, alike(y, api.Tensor{}))
	y, e = Chance(x, f, 1, 2)
	hold("Chance", e, alike(y, api.Tensor{}))
	return told
}

// P13.1, P13.2: of what isn't right each call tells ErrShape, be the row, the column, the format there or not.
func TestShapeIsFirst(t *testing.T) {
	for _, x := range wrong() {
		for _, o := range []struct{ r, c, f int }{{0, 0, api.Half}, {0, 0, api.Brain}, {0, 0, api.Single}, {-1, 0, -1}, {0, -1, 3}, {99999, 99999, 9}, {math.MinInt, math.MaxInt, math.MaxInt}} {
			for name, e := range askAll(t, x, o.r, o.c, o.f) {
				if e != api.ErrShape {
					t.Errorf("P13.1: %s of %d times %d of format %d with %d numbers: error %d", name, x.Rows, x.Cols, x.F, len(x.V), e)
				}
			}
		}
	}
}

// ends are places at both ends of n, and far from them.
func ends(n int) []int {
	return []int{math.MinInt, -n, -2, -1, 0, 1, n / 2, n - 2, n - 1, n, n + 1, 2 * n, n * n, 1 << 32, math.MaxInt}
}

// P13.1: At tells the number of a row and a column that are there, else ErrRange.
func TestAt(t *testing.T) {
	for _, w := range layouts() {
		for _, s := range shapes() {
			x := w.some(s.rows, s.cols)
			for _, r := range ends(s.rows) {
				for _, c := range ends(s.cols) {
					want, wantErr := uint32(0), api.ErrRange
					if r >= 0 && r < s.rows && c >= 0 && c < s.cols {
						want, wantErr = x.V[r*s.cols+c], api.OK
					}
					if v, e := At(x, r, c); v != want || e != wantErr {
						t.Fatalf("P13.1: At(%d, %d) of %d times %d of %s: %#x, %d, not %#x, %d", r, c, s.rows, s.cols, w.name, v, e, want, wantErr)
					}
				}
			}
		}
	}
}

// P13.1: numbers that are written out, at each place of a few rows.
func TestAtRows(t *testing.T) {
	x := of(3, 2, api.Brain, 10, 11, 20, 21, 30, 31)
	for r, row := range [][]uint32{{10, 11}, {20, 21}, {30, 31}} {
		for c, want := range row {
			if v, e := At(x, r, c); v != want || e != api.OK {
				t.Errorf("P13.1: At(%d, %d) is %d, %d, not %d", r, c, v, e, want)
			}
		}
		if l, e := Row(x, r); !slices.Equal(l, row) || e != api.OK {
			t.Errorf("P13.1: Row(%d) is %d, %d, not %d", r, l, e, row)
		}
	}
}

// P13.1: Row tells a row that is there, of no columns an empty one, else ErrRange.
func TestRow(t *testing.T) {
	for _, w := range layouts() {
		for _, s := range shapes() {
			x := w.some(s.rows, s.cols)
			for _, r := range ends(s.rows) {
				var want []uint32
				wantErr := api.ErrRange
				if r >= 0 && r < s.rows {
					wantErr = api.OK
					for c := range s.cols {
						want = append(want, x.V[r*s.cols+c])
					}
				}
				if l, e := Row(x, r); !slices.Equal(l, want) || e != wantErr {
					t.Fatalf("P13.1: Row(%d) of %d times %d of %s: %#x, %d, not %#x, %d", r, s.rows, s.cols, w.name, l, e, want, wantErr)
				}
			}
		}
	}
}

// P13.1: Turn makes columns of rows; a row of what is turned is a column.
func TestTurn(t *testing.T) {
	for _, w := range layouts() {
		for _, s := range shapes() {
			x := w.some(s.rows, s.cols)
			want := of(s.cols, s.rows, w.f, make([]uint32, s.rows*s.cols)...)
			for i, v := range x.V {
				want.V[i%s.cols*s.rows+i/s.cols] = v
			}
			y, e := Turn(x)
			holdTensor(t, "P13.1: Turn", y, e, want, api.OK)
			back, e := Turn(y)
			holdTensor(t, "P13.1: Turn there and back", back, e, x, api.OK)
		}
	}
	y, e := Turn(of(2, 4, api.Half, 1, 2, 3, 4, 5, 6, 7, 8))
	holdTensor(t, "P13.1: Turn", y, e, of(4, 2, api.Half, 1, 5, 2, 6, 3, 7, 4, 8), api.OK)
}

// P13.1: Turn keeps each number's bits, NaNs and noughts with signs too.
func TestTurnKeepsBits(t *testing.T) {
	for _, w := range layouts() {
		y, e := Turn(of(2, 3, w.f, w.mask, w.sign, w.inf+1, w.quiet|1, w.sign|w.inf, 1))
		holdTensor(t, "P13.1: Turn", y, e, of(3, 2, w.f, w.mask, w.quiet|1, w.sign, w.sign|w.inf, w.inf+1, 1), api.OK)
	}
}

// P13.1: Same: each shape is the same as itself alone.
func TestSameShapes(t *testing.T) {
	for i, a := range shapes() {
		for k, b := range shapes() {
			if got := Same(half.some(a.rows, a.cols), half.some(b.rows, b.cols)); got != (i == k) {
				t.Errorf("P13.1: Same of %v and %v is %v", a, b, got)
			}
		}
	}
	six := []uint32{7, 7, 7, 7, 7, 7}
	for _, s := range []shape{{3, 2}, {1, 6}, {6, 1}} {
		if Same(of(2, 3, api.Half, six...), of(s.rows, s.cols, api.Half, six...)) {
			t.Errorf("P13.1: 2 times 3 sevens are the same as %v", s)
		}
	}
}

// P13.1: Same: numbers of another format aren't the same, whatever their bits.
func TestSameFormats(t *testing.T) {
	for _, a := range layouts() {
		for _, b := range layouts() {
			for _, l := range [][]uint32{nil, {0}, {0x3f80}, {1, 2, 3}} {
				if got := Same(of(1, len(l), a.f, l...), of(1, len(l), b.f, l...)); got != (a.f == b.f) {
					t.Errorf("P13.1: Same of %#x in %s and in %s is %v", l, a.name, b.name, got)
				}
			}
		}
	}
}

// P13.1: Same: each bit of each number counts, and nothing but bits: a nought is
// not one with a sign, NaNs are by their bits.
func TestSameBits(t *testing.T) {
	for _, w := range layouts() {
		l := []uint32{0, w.sign, 1, w.inf, w.sign | w.inf, w.quiet, w.quiet | 1, w.sign | w.quiet, w.inf + 1, w.inf + 2, w.mask}
		for _, a := range l {
			for _, b := range l {
				if got := Same(of(1, 2, w.f, 5, a), of(1, 2, w.f, 5, b)); got != (a == b) {
					t.Errorf("P13.1: Same of %s's %#x and %#x is %v", w.name, a, b, got)
				}
			}
		}
		for at := range 6 {
			for bit := range w.bits {
				a, b := w.some(2, 3), w.some(2, 3)
				if b.V[at] ^= 1 << bit; Same(a, b) || Same(b, a) {
					t.Errorf("P13.1: Same doesn't see bit %d of number %d of %s", bit, at, w.name)
				}
			}
		}
	}
}

// P13.1: Same: a list that is nil and an empty one, one with room behind it, are the same.
func TestSameOfNothing(t *testing.T) {
	for _, w := range layouts() {
		room := append(make([]uint32, 0, 9), 1, 2, 3)
		if !Same(of(0, 5, w.f), of(0, 5, w.f, room[:0]...)) || !Same(of(0, 0, w.f, []uint32{}...), of(0, 0, w.f)) {
			t.Errorf("P13.1: nothing of %s isn't the same", w.name)
		}
		if Same(of(0, 5, w.f), of(5, 0, w.f)) || Same(of(0, 5, w.f), of(0, 4, w.f)) || Same(of(0, 0, w.f), of(0, 1, w.f)) || Same(of(0, 0, w.f), of(1, 0, w.f)) {
			t.Errorf("P13.1: nothing of %s of other shapes is the same", w.name)
		}
		if !Same(of(1, 2, w.f, 1, 2), of(1, 2, w.f, room[:2]...)) {
			t.Errorf("P13.1: %s with room behind it isn't the same", w.name)
		}
	}
}

// P13.1: Same asks nothing else: what isn't right is the same as what has its shape, format, bits.
func TestSameOfWrong(t *testing.T) {
	l := wrong()
	for _, x := range l {
		if !Same(x, of(x.Rows, x.Cols, x.F, slices.Clone(x.V)...)) {
			t.Errorf("P13.1: %d times %d of format %d with %d numbers isn't the same as itself", x.Rows, x.Cols, x.F, len(x.V))
		}
		if Same(x, api.Tensor{}) || Same(api.Tensor{}, x) {
			t.Errorf("P13.1: %d times %d of format %d with %d numbers is the same as nothing", x.Rows, x.Cols, x.F, len(x.V))
		}
	}
	if Same(of(1, 1, api.Half, 1), of(1, 1, api.Half, 1, 2)) || Same(of(1, 1, api.Half, 1, 2), of(1, 1, api.Half, 1)) || Same(of(1, 1, api.Half), of(1, 1, api.Half, 0)) {
		t.Error("P13.1: Same doesn't see another count of numbers")
	}
}

// P13.1: Finite: each number of 16 bits, by its exponent.
func TestFinite(t *testing.T) {
	for _, w := range layouts() {
		for v := range uint32(1 << 16) {
			a := v << (w.bits - 16)
			if got := Finite(of(1, 1, w.f, a)); got != (a&w.inf != w.inf) {
				t.Fatalf("P13.1: Finite of %s's %#x is %v", w.name, a, got)
			}
		}
		for _, s := range shapes() {
			if !Finite(of(s.rows, s.cols, w.f, make([]uint32, s.rows*s.cols)...)) {
				t.Errorf("P13.1: noughts of %s, %v, aren't finite", w.name, s)
			}
		}
	}
}

// P13.1: Finite: an infinity, a NaN of either kind is seen at each place; the greatest ones and subnormal ones are finite.
func TestFiniteAtEachPlace(t *testing.T) {
	for _, w := range layouts() {
		top, least := w.inf-1, w.highest
		for at := range 6 {
			for _, v := range []uint32{w.inf, w.inf + 1, w.inf + w.highest - 1, w.quiet, w.quiet + 1, w.mask >> 1} {
				for _, sign := range []uint32{0, w.sign} {
					x := of(2, 3, w.f, top, w.sign|top, least, w.sign|1, w.sign, 0)
					if !Finite(x) {
						t.Fatalf("P13.1: %s's %#x aren't finite", w.name, x.V)
					}
					if x.V[at] = sign | v; Finite(x) {
						t.Errorf("P13.1: %s's %#x are finite", w.name, x.V)
					}
				}
			}
		}
	}
}
