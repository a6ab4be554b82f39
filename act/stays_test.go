package act

import (
	"slices"
	"sync"
	"testing"

	"anneal/api"
)

// answers are what the calls tell of two tensors of one shape, of each activation, one behind another.
func answers(z, d api.Tensor) []api.Tensor {
	var l []api.Tensor
	keep := func(x api.Tensor, _ api.Errno) { l = append(l, x) }
	for kind := range kinds() {
		keep(Forward(kind, z))
		keep(Forward(kind, d))
		keep(Back(kind, z, d))
		keep(Back(kind, d, z))
		keep(Back(kind, z, z))
	}
	return append(l, Mask(z.Rows, z.Cols, 1<<31, 7, 8))
}

// guard is what stands in the room behind a list's end.
const guard = 0xdeadbeef

// roomy is x with a list that has room behind its end, and all of that list.
func roomy(x api.Tensor) (api.Tensor, []uint32) {
	all := slices.Concat(x.V, []uint32{guard, guard, guard, guard})
	x.V = all[:len(x.V)]
	return x, all
}

// spoil turns each bit of a list, its room included.
func spoil(l []uint32) {
	l = l[:cap(l)]
	for i := range l {
		l[i] = ^l[i]
	}
}

// copies are the numbers of tensors, in memory of their own.
func copies(l []api.Tensor) [][]uint32 {
	var told [][]uint32
	for _, x := range l {
		told = append(told, slices.Clone(x.V))
	}
	return told
}

// overPairs asks of each two formats and some shapes, with tensors that have room.
func overPairs(ask func(z, d api.Tensor, all [2][]uint32)) {
	for _, v := range layouts() {
		for _, w := range layouts() {
			for _, s := range []struct{ rows, cols int }{{0, 0}, {0, 3}, {3, 0}, {1, 1}, {1, 5}, {5, 1}, {3, 4}} {
				z, zs := roomy(v.near(s.rows, s.cols, 41))
				d, ds := roomy(w.mixed(s.rows, s.cols, 42))
				ask(z, d, [2][]uint32{zs, ds})
			}
		}
	}
}

// P15.2: what is handed in stays as it was, the room behind it included, and shares no
// memory with what is told: neither sees what is written to the other.
func TestArgumentsStay(t *testing.T) {
	overPairs(func(z, d api.Tensor, all [2][]uint32) {
		before := [2][]uint32{slices.Clone(all[0]), slices.Clone(all[1])}
		stays := func(what string) {
			if !slices.Equal(all[0], before[0]) || !slices.Equal(all[1], before[1]) {
				t.Errorf("P15.2: %s %d times %d: %#x, and was %#x", what, z.Rows, z.Cols, all, before)
			}
		}
		told := answers(z, d)
		stays("asking changes what was handed in of")
		kept := copies(told)
		spoil(all[0])
		spoil(all[1])
		for i, x := range told {
			if !slices.Equal(x.V, kept[i]) {
				t.Errorf("P15.2: answer %d of %d times %d hangs on what was handed in", i, z.Rows, z.Cols)
			}
		}
		spoil(all[0])
		spoil(all[1])
		for _, x := range told {
			spoil(x.V)
		}
		stays("an answer writes to what was handed in of")
	})
}

// P15.2: a call that tells an error changes nothing.
func TestArgumentsStayBesideErrors(t *testing.T) {
	overPairs(func(z, d api.Tensor, all [2][]uint32) {
		before := slices.Concat(all[0], all[1])
		other := of(z.Cols+1, z.Rows+2, z.F, z.V...)
		Forward(4, z)
		Forward(api.Gelu, other)
		Back(-1, z, d)
		Back(api.Tanh, other, d)
		Back(api.Tanh, d, other)
		if !slices.Equal(slices.Concat(all[0], all[1]), before) {
			t.Errorf("P15.2: an error changes what was handed in of %d times %d", z.Rows, z.Cols)
		}
	})
}

// P15.2, P15.3: no two answers share memory: the one stays when all over the other is written.
func TestAnswersShareNothing(t *testing.T) {
	overPairs(func(z, d api.Tensor, _ [2][]uint32) {
		told := append(answers(z, d), answers(z, d)...)
		for i, x := range told {
			kept := copies(told)
			spoil(x.V)
			for k, y := range told {
				if k != i && !slices.Equal(y.V, kept[k]) {
					t.Errorf("P15.2, P15.3: answers %d and %d of %d times %d share memory", i, k, z.Rows, z.Cols)
				}
			}
		}
	})
}

// P15.2: tensors whose lists lie over each other are told as those that don't.
func TestListsThatOverlap(t *testing.T) {
	for _, w := range layouts() {
		all := w.near(1, 14, 45).V
		z, d := of(3, 3, w.f, all[:9]...), of(3, 3, w.f, all[5:]...)
		over := answers(z, d)
		z.V, d.V = slices.Clone(z.V), slices.Clone(d.V)
		for i, want := range answers(z, d) {
			holdTensor(t, "P15.2: of lists that lie over each other", over[i], api.OK, want, api.OK)
		}
	}
}

// P15.1, P15.2, P15.3: the same arguments tell the same again, whatever was asked
// between, in any order, by many at once.
func TestSameAgain(t *testing.T) {
	var asked [][2]api.Tensor
	var first [][]api.Tensor
	for _, v := range layouts() {
		for _, w := range layouts() {
			for _, n := range []int{0, 1, 2, 7, 12} {
				z, d := v.near(n, n, 31), w.mixed(n, n, 32)
				asked, first = append(asked, [2]api.Tensor{z, d}), append(first, answers(z, d))
			}
		}
	}
	singles := numbers()[:600]
	value, slope := make([]uint32, len(singles)), make([]uint32, len(singles))
	for i, x := range singles {
		value[i], slope[i] = Value(i%5, x), Slope(i%5, x)
	}
	again := func() {
		for i := len(asked) - 1; i >= 0; i-- {
			for k, got := range answers(asked[i][0], asked[i][1]) {
				if !alike(got, first[i][k]) {
					t.Errorf("P15.2, P15.3: answer %d of pair %d is %#x, and was %#x", k, i, got, first[i][k])
				}
			}
		}
		for i := len(singles) - 1; i >= 0; i-- {
			if Slope(i%5, singles[i]) != slope[i] || Value(i%5, singles[i]) != value[i] {
				t.Errorf("P15.1: of activation %d, %#08x there is something else", i%5, singles[i])
			}
		}
	}
	again()
	var all sync.WaitGroup
	for range 4 {
		all.Go(again)
	}
	all.Wait()
}
