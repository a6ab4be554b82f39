package kern

import (
	"slices"
	"testing"

	"anneal/api"
)

// answers are what the calls tell of two tensors of one shape, as many rows as columns,
// one behind another: with b, and with b's first row.
func answers(a, b api.Tensor) []api.Tensor {
	var l []api.Tensor
	keep := func(x api.Tensor, _ api.Errno) { l = append(l, x) }
	for _, p := range products() {
		keep(p.call(a, b))
	}
	row := of(1, b.Cols, b.F, b.V[:b.Cols]...) // b's own list, with room behind it
	keep(Bias(a, row))
	keep(Add(a, b))
	keep(Mul(a, b))
	keep(Sums(a))
	keep(By(a, 0x40400000))
	keep(Rows(a, a))
	keep(Add(a, a))
	keep(Rows(b, row))
	return l
}

// guard is what stands in the room behind a list's end.
const guard = 0xdeadbeef

// roomy is x with a list that has room behind its end, and all of that list.
func roomy(x api.Tensor) (api.Tensor, []uint32) {
	all := slices.Concat(x.V, []uint32{guard, guard, guard, guard})
	x.V = all[:len(x.V)]
	return x, all
}

// spoil turns each bit of a list, its room included.
func spoil(l []uint32) {
	l = l[:cap(l)]
	for i := range l {
		l[i] = ^l[i]
	}
}

// copies are the numbers of tensors, in memory of their own.
func copies(l []api.Tensor) [][]uint32 {
	var told [][]uint32
	for _, x := range l {
		told = append(told, slices.Clone(x.V))
	}
	return told
}

// overPairs asks of each two formats and some shapes, with tensors that have room.
func overPairs(ask func(a, b api.Tensor, all [2][]uint32)) {
	for _, v := range layouts() {
		for _, w := range layouts() {
			for _, n := range []int{0, 1, 2, 5} {
				a, as := roomy(v.near(n, n, 41))
				b, bs := roomy(w.mixed(n, n, 42))
				ask(a, b, [2][]uint32{as, bs})
			}
		}
	}
}

// P14.1, P14.2: what is handed in stays as it was, the room behind it included, and
// shares no memory with what is told: neither sees what is written to the other.
func TestArgumentsStay(t *testing.T) {
	overPairs(func(a, b api.Tensor, all [2][]uint32) {
		before := [2][]uint32{slices.Clone(all[0]), slices.Clone(all[1])}
		stays := func(what string) {
			if !slices.Equal(all[0], before[0]) || !slices.Equal(all[1], before[1]) {
				t.Errorf("P14.1, P14.2: %s %d times %d: %#x, and was %#x", what, a.Rows, a.Cols, all, before)
			}
		}
		told := answers(a, b)
		stays("asking changes what was handed in of")
		kept := copies(told)
		spoil(all[0])
		spoil(all[1])
		for i, x := range told {
			if !slices.Equal(x.V, kept[i]) {
				t.Errorf("P14.1, P14.2: answer %d of %d times %d hangs on what was handed in", i, a.Rows, a.Cols)
			}
		}
		spoil(all[0])
		spoil(all[1])
		for _, x := range told {
			spoil(x.V)
		}
		stays("an answer writes to what was handed in of")
	})
}

// P14.1, P14.2: no two answers share memory: the one stays when all over the other is written.
func TestAnswersShareNothing(t *testing.T) {
	overPairs(func(a, b api.Tensor, _ [2][]uint32) {
		told := append(answers(a, b), answers(a, b)...)
		for i, x := range told {
			kept := copies(told)
			spoil(x.V)
			for k, y := range told {
				if k != i && !slices.Equal(y.V, kept[k]) {
					t.Errorf("P14.1, P14.2: answers %d and %d of %d times %d share memory", i, k, a.Rows, a.Cols)
				}
			}
		}
	})
}

// P14.1: lists that Dot is handed stay, the room behind them included.
func TestListsStay(t *testing.T) {
	for n := range 6 {
		a, as := roomy(single.near(1, n, 43))
		b, bs := roomy(single.mixed(1, 3, 44))
		before := slices.Concat(as, bs)
		Dot(a.V, a.V)
		Dot(a.V, b.V)
		Dot(b.V, a.V)
		if !slices.Equal(slices.Concat(as, bs), before) {
			t.Errorf("P14.1: Dot changes %#x to %#x, %#x", before, as, bs)
		}
	}
}

// P14.1, P14.2: tensors whose lists lie over each other are told as those that don't.
func TestListsThatOverlap(t *testing.T) {
	for _, w := range layouts() {
		all := w.near(1, 14, 45).V
		a, b := of(3, 3, w.f, all[:9]...), of(3, 3, w.f, all[5:]...)
		over := answers(a, b)
		a.V, b.V = slices.Clone(a.V), slices.Clone(b.V)
		for i, want := range answers(a, b) {
			holdTensor(t, "P14.1, P14.2: of lists that lie over each other", over[i], api.OK, want, api.OK)
		}
	}
}
