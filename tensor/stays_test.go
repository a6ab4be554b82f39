package tensor

import (
	"slices"
	"sync"
	"testing"

	"anneal/api"
)

// guard is what stands in the room behind a list's end.
const guard = 0xdeadbeef

// roomy is x with a list that has room behind its end, and all of that list.
func roomy(x api.Tensor) (api.Tensor, []uint32) {
	all := slices.Concat(x.V, []uint32{guard, guard, guard, guard})
	x.V = all[:len(x.V)]
	return x, all
}

// lists are all lists that the calls tell of x, one behind another.
func lists(x api.Tensor) [][]uint32 {
	var l [][]uint32
	keep := func(y api.Tensor, _ api.Errno) { l = append(l, y.V) }
	keep(New(x.Rows, x.Cols, x.F), api.OK)
	for r := range x.Rows {
		row, _ := Row(x, r)
		l = append(l, row)
	}
	keep(Turn(x))
	for _, w := range layouts() {
		keep(Cast(x, w.f))
		keep(Chance(x, w.f, 11, 12))
	}
	return l
}

// spoil writes all over a list, its room included.
func spoil(l []uint32) {
	l = l[:cap(l)]
	for i := range l {
		l[i] = ^l[i]
	}
}

// P13.3: what is handed in stays as it was, the room behind it included, whatever is asked.
func TestArgumentStays(t *testing.T) {
	for _, w := range layouts() {
		for _, s := range []shape{{2, 3}, {1, 1}, {5, 1}, {1, 5}, {4, 4}, {0, 3}, {3, 0}} {
			x, all := roomy(w.mixed(s.rows, s.cols))
			before := slices.Clone(all)
			lists(x)
			Right(x)
			Finite(x)
			Same(x, x)
			for r := -1; r <= s.rows; r++ {
				askAll(t, x, r, 0, -1)
			}
			if !slices.Equal(all, before) {
				t.Errorf("P13.3: %d times %d of %s became %#x, and was %#x", s.rows, s.cols, w.name, all, before)
			}
		}
	}
}

// P13.3: what is told shares no memory with what is handed in: neither sees what is written to the other.
func TestSharesNothing(t *testing.T) {
	for _, w := range layouts() {
		for _, s := range []shape{{2, 3}, {1, 1}, {1, 5}, {5, 1}, {0, 3}, {3, 0}} {
			x, all := roomy(w.mixed(s.rows, s.cols))
			before := slices.Clone(all)
			told := lists(x)
			var kept [][]uint32
			for _, l := range told {
				kept = append(kept, slices.Clone(l))
			}
			spoil(all)
			for i, l := range told {
				if !slices.Equal(l, kept[i]) {
					t.Errorf("P13.3: answer %d of %v of %s hangs on what was handed in", i, s, w.name)
				}
			}
			spoil(all)
			for i, l := range told {
				if spoil(l); !slices.Equal(all, before) {
					t.Fatalf("P13.3: answer %d of %v of %s writes to what was handed in", i, s, w.name)
				}
			}
		}
	}
}

// P13.3: no two answers share memory: the one stays when all over the other is written.
func TestAnswersShareNothing(t *testing.T) {
	for _, w := range layouts() {
		x := w.mixed(2, 3)
		told := append(lists(x), lists(x)...)
		for i, l := range told {
			var kept [][]uint32
			for _, o := range told {
				kept = append(kept, slices.Clone(o))
			}
			spoil(l)
			for k, o := range told {
				if k != i && !slices.Equal(o, kept[k]) {
					t.Errorf("P13.3: answers %d and %d of %s share memory", i, k, w.name)
				}
			}
		}
	}
}

// P13.3: the same arguments tell the same again, whatever was asked between, in any order, by many at once.
func TestSameAgain(t *testing.T) {
	var l []api.Tensor
	var first [][][]uint32
	for _, w := range layouts() {
		for _, s := range []shape{{2, 3}, {3, 2}, {1, 9}, {9, 1}, {12, 12}, {0, 4}, {4, 0}} {
			x := w.mixed(s.rows, s.cols)
			l, first = append(l, x), append(first, lists(x))
		}
	}
	again := func() {
		for i := len(l) - 1; i >= 0; i-- {
			for k, told := range lists(l[i]) {
				if !slices.Equal(told, first[i][k]) {
					t.Errorf("P13.3: answer %d of tensor %d is %#x, and was %#x", k, i, told, first[i][k])
				}
			}
		}
	}
	again()
	var all sync.WaitGroup
	for range 4 {
		all.Go(again)
	}
	all.Wait()
}

// P13.3: a tensor is as its shape says: whatever a call tells is right, of the shape and the format that it is asked.
func TestAsItsShapeSays(t *testing.T) {
	for _, w := range layouts() {
		for _, s := range shapes() {
			x := w.mixed(s.rows, s.cols)
			hold := func(name string, y api.Tensor, rows, cols, f int) {
				if !Right(y) || y.Rows != rows || y.Cols != cols || y.F != f || len(y.V) != rows*cols {
					t.Errorf("P13.3: %s of %v of %s is %d times %d of format %d, %d numbers", name, s, w.name, y.Rows, y.Cols, y.F, len(y.V))
				}
			}
			hold("New", New(s.rows, s.cols, w.f), s.rows, s.cols, w.f)
			y, _ := Turn(x)
			hold("Turn", y, s.cols, s.rows, w.f)
			for _, to := range layouts() {
				y, _ = Cast(x, to.f)
				hold("Cast", y, s.rows, s.cols, to.f)
				y, _ = Chance(x, to.f, 3, 4)
				hold("Chance", y, s.rows, s.cols, to.f)
			}
		}
	}
}

// P13.3: the rows, one behind another, are the numbers in their order, and At tells each row's.
func TestRowsAreTheNumbers(t *testing.T) {
	for _, w := range layouts() {
		for _, s := range []shape{{7, 13}, {13, 7}, {1, 20}, {20, 1}, {16, 16}} {
			x := w.some(s.rows, s.cols)
			var l []uint32
			for r := range s.rows {
				row, e := Row(x, r)
				if e != api.OK || len(row) != s.cols {
					t.Fatalf("P13.3: row %d of %v of %s has %d numbers, error %d", r, s, w.name, len(row), e)
				}
				for c, want := range row {
					if v, e := At(x, r, c); v != want || e != api.OK {
						t.Errorf("P13.3: At(%d, %d) of %v of %s is %#x, error %d, not %#x", r, c, s, w.name, v, e, want)
					}
				}
				l = append(l, row...)
			}
			if !slices.Equal(l, x.V) {
				t.Errorf("P13.3: the rows of %v of %s aren't its numbers", s, w.name)
			}
		}
	}
}
