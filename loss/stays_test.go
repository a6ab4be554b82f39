package loss

import (
	"slices"
	"sync"
	"testing"

	"anneal/api"
)

// given is what is handed in: two tensors of one shape, and labels of their rows.
type given struct {
	z, t api.Tensor
	y    []int
}

// answers are what the calls tell of it, one behind another, and what Right counts.
func (g given) answers() ([]told, [2]int) {
	l := []told{allOf(Softmax(g.z, g.y)), allOf(Softmax(g.t, g.y)), allOf(Mse(g.z, g.t)), allOf(Mse(g.t, g.z)), allOf(Mse(g.z, g.z))}
	a, _ := Right(g.z, g.y)
	b, _ := Right(g.t, g.y)
	return l, [2]int{a, b}
}

// guard is what stands in the room behind a list's end.
const guard = 0xdeadbeef

// room is a list of all of a list and of some room behind its end.
func room[T any](l []T, behind T) (short, whole []T) {
	whole = slices.Concat(l, []T{behind, behind, behind, behind})
	return whole[:len(l)], whole
}

// spoil turns each bit of a list, its room included.
func spoil[T int | uint32](l []T) {
	l = l[:cap(l)]
	for i := range l {
		l[i] = ^l[i]
	}
}

// copies are the numbers of answers, in memory of their own.
func copies(l []told) [][]uint32 {
	var kept [][]uint32
	for _, x := range l {
		kept = append(kept, slices.Clone(x.slopes.V))
	}
	return kept
}

// memory is all of what the lists that are handed in have, room included.
type memory struct {
	z, t []uint32
	y    []int
}

func (m memory) clone() memory {
	return memory{slices.Clone(m.z), slices.Clone(m.t), slices.Clone(m.y)}
}

func (m memory) same(o memory) bool {
	return slices.Equal(m.z, o.z) && slices.Equal(m.t, o.t) && slices.Equal(m.y, o.y)
}

func (m memory) spoil() {
	spoil(m.z)
	spoil(m.t)
	spoil(m.y)
}

// overPairs asks of each two formats and some shapes, with lists that have room.
func overPairs(ask func(g given, m memory)) {
	for _, v := range layouts() {
		for _, w := range layouts() {
			for _, s := range []struct{ rows, cols int }{{0, 0}, {0, 3}, {1, 1}, {1, 5}, {5, 1}, {3, 4}} {
				var g given
				var m memory
				g.z, g.t = v.near(s.rows, s.cols, 41), w.mixed(s.rows, s.cols, 42)
				g.z.V, m.z = room(g.z.V, guard)
				g.t.V, m.t = room(g.t.V, guard)
				g.y, m.y = room(labels(s.rows, s.cols, 43), -guard)
				ask(g, m)
			}
		}
	}
}

// P16.1, P16.2, P16.3: what is handed in stays as it was, the room behind it included,
// and shares no memory with what is told: neither sees what is written to the other.
func TestArgumentsStay(t *testing.T) {
	overPairs(func(g given, m memory) {
		before := m.clone()
		stays := func(what string) {
			if !m.same(before) {
				t.Errorf("P16.1, P16.2: %s %d times %d: %#x, and was %#x", what, g.z.Rows, g.z.Cols, m, before)
			}
		}
		told, _ := g.answers()
		stays("asking changes what was handed in of")
		kept := copies(told)
		m.spoil()
		for i, x := range told {
			if !slices.Equal(x.slopes.V, kept[i]) {
				t.Errorf("P16.1, P16.2: answer %d of %d times %d hangs on what was handed in", i, g.z.Rows, g.z.Cols)
			}
		}
		m.spoil()
		for _, x := range told {
			spoil(x.slopes.V)
		}
		stays("an answer writes to what was handed in of")
	})
}

// P16.1, P16.2, P16.3: a call that tells an error changes nothing.
func TestArgumentsStayBesideErrors(t *testing.T) {
	overPairs(func(g given, m memory) {
		before := m.clone()
		other := of(g.z.Cols+1, g.z.Rows+2, g.z.F, g.z.V...)
		bad := spoilt(g.y)
		was := slices.Clone(bad)
		Softmax(other, g.y)
		Softmax(g.z, append(g.y[:len(g.y):len(g.y)], 0))
		Softmax(g.z, bad)
		Right(other, g.y)
		Right(g.z, bad)
		Mse(other, g.t)
		Mse(g.t, other)
		if !m.same(before) || !slices.Equal(bad, was) {
			t.Errorf("P16.1, P16.2: an error changes what was handed in of %d times %d", g.z.Rows, g.z.Cols)
		}
	})
}

// spoilt are the labels, of which the last one is no column.
func spoilt(y []int) []int {
	l := slices.Clone(y)
	if len(l) > 0 {
		l[len(l)-1] = -1
	}
	return l
}

// P16.1, P16.2: no two answers share memory: the one stays when all over the other is written.
func TestAnswersShareNothing(t *testing.T) {
	overPairs(func(g given, _ memory) {
		l, _ := g.answers()
		more, _ := g.answers()
		l = append(l, more...)
		for i, x := range l {
			kept := copies(l)
			spoil(x.slopes.V)
			for k, y := range l {
				if k != i && !slices.Equal(y.slopes.V, kept[k]) {
					t.Errorf("P16.1, P16.2: answers %d and %d of %d times %d share memory", i, k, g.z.Rows, g.z.Cols)
				}
			}
		}
	})
}

// P16.1, P16.2: tensors whose lists lie over each other are told as those that don't.
func TestListsThatOverlap(t *testing.T) {
	for _, w := range layouts() {
		l := w.near(1, 14, 45).V
		g := given{of(3, 3, w.f, l[:9]...), of(3, 3, w.f, l[5:]...), []int{2, 0, 1}}
		over, counts := g.answers()
		g.z.V, g.t.V = slices.Clone(g.z.V), slices.Clone(g.t.V)
		want, wantCounts := g.answers()
		for i := range want {
			hold(t, "P16.1, P16.2: of lists that lie over each other", over[i], want[i].loss, want[i].slopes)
		}
		if counts != wantCounts {
			t.Errorf("P16.3: of lists that lie over each other: %d, not %d", counts, wantCounts)
		}
	}
}

// P16.1, P16.2, P16.3: the same arguments tell the same again, whatever was asked
// between, in any order, by many at once.
func TestSameAgain(t *testing.T) {
	var asked []given
	var first [][]told
	var counts [][2]int
	for _, v := range layouts() {
		for _, w := range layouts() {
			for _, n := range []int{0, 1, 2, 7, 12} {
				g := given{v.near(n, n, 31), w.far(n, n, 32), labels(n, n, 33)}
				l, c := g.answers()
				asked, first, counts = append(asked, g), append(first, l), append(counts, c)
			}
		}
	}
	again := func() {
		for i := len(asked) - 1; i >= 0; i-- {
			l, c := asked[i].answers()
			for k, got := range l {
				if got.e != api.OK || got.loss != first[i][k].loss || !alike(got.slopes, first[i][k].slopes) {
					t.Errorf("P16.1, P16.2: answer %d of pair %d is %#x, and was %#x", k, i, got, first[i][k])
				}
			}
			if c != counts[i] {
				t.Errorf("P16.3: of pair %d %d are right, and were %d", i, c, counts[i])
			}
		}
	}
	again()
	var many sync.WaitGroup
	for range 4 {
		many.Go(again)
	}
	many.Wait()
}
