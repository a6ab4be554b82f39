package net

import (
	"slices"
	"sync"
	"testing"

	"anneal/api"
)

// guard is what stands in the room behind a list's end.
const guard = 0xdeadbeef

// roomy is a tensor whose list has room behind its end.
func roomy(t api.Tensor) api.Tensor {
	t.V = slices.Concat(t.V, []uint32{guard, guard, guard})[:len(t.V)]
	return t
}

// behind is what stands in the room behind a list of tensors.
func behind() api.Tensor { return of(guard, guard, guard, guard) }

// roomyAll are tensors, each with room, in a list with room.
func roomyAll(l []api.Tensor) []api.Tensor {
	var made []api.Tensor
	for _, t := range l {
		made = append(made, roomy(t))
	}
	return append(made, behind(), behind())[:len(l)]
}

// roomyParams are params, each with room, in a list with room.
func roomyParams(p []api.Param) []api.Param {
	var made []api.Param
	for _, q := range p {
		made = append(made, api.Param{W: roomy(q.W), B: roomy(q.B)})
	}
	return append(made, api.Param{W: behind()}, api.Param{B: behind()})[:len(p)]
}

// withRoom is what is asked, with room behind each list.
func (a asked) withRoom() asked {
	a.c.Widths = append(slices.Clone(a.c.Widths), guard, guard)[:len(a.c.Widths)]
	a.p, a.w, a.x, a.d = roomyParams(a.p), roomyAll(a.w), roomy(a.x), roomy(a.d)
	a.left = Trace{X: roomyAll(a.left.X), Z: roomyAll(a.left.Z), K: roomyAll(a.left.K)}
	return a
}

// tensors are all of what is asked, those in lists' rooms included.
func (a asked) tensors() []api.Tensor {
	l := slices.Concat(a.w[:cap(a.w)], []api.Tensor{a.x, a.d}, a.left.X[:cap(a.left.X)], a.left.Z[:cap(a.left.Z)], a.left.K[:cap(a.left.K)])
	for _, q := range a.p[:cap(a.p)] {
		l = append(l, q.W, q.B)
	}
	return l
}

// clones are tensors in memory of their own.
func clones(l []api.Tensor) []api.Tensor {
	var made []api.Tensor
	for _, t := range l {
		t.V = slices.Clone(t.V)
		made = append(made, t)
	}
	return made
}

// memory are tensors whose lists are all of what those of l have, room included, and how long they are.
func memory(l []api.Tensor) []api.Tensor {
	var made []api.Tensor
	for _, t := range l {
		t.V = append(slices.Clone(t.V[:cap(t.V)]), uint32(len(t.V)))
		made = append(made, t)
	}
	return made
}

// stays tells whether tensors are as they were kept.
func stays(l, kept []api.Tensor) bool { return slices.EqualFunc(memory(l), kept, alike) }

// spoil turns each bit of tensors' lists, room included.
func spoil(l []api.Tensor) {
	for _, t := range l {
		all := t.V[:cap(t.V)]
		for i := range all {
			all[i] = ^all[i]
		}
	}
}

// answers are all tensors that the calls tell of what is asked.
func (a asked) answers() []api.Tensor {
	w, _ := Low(a.c, a.p, a.micro)
	z, left, _ := Forward(a.c, a.p, a.w, a.x, a.micro)
	g, _ := Back(a.c, a.p, a.w, a.left, a.d)
	l := slices.Concat(w, []api.Tensor{z}, left.X, left.Z, left.K)
	for _, q := range g {
		l = append(l, q.W, q.B)
	}
	return l
}

// overAll asks of nets of each format, activation and depth, with room behind all lists.
func overAll(t *testing.T, ask func(a asked)) {
	for i, widths := range [][]int{{1, 1}, {3, 2}, {2, 3, 2}, {1, 1, 1}, {3, 2, 4, 3}} {
		for _, f := range layouts() {
			for kind := range kinds() {
				for _, drop := range []uint32{0, 1 << 30} {
					c := config(f, kind, widths...)
					c.Drop, c.Chance = drop, i%2 == 0
					ask(right(t, c, []int{2, 1, 0, 3}[(i+kind)%4]).withRoom())
				}
			}
		}
	}
}

// P17.1, P17.2, P17.3: what is handed in stays as it was, the room behind it included,
// and shares no memory with what is told: neither sees what is written to the other.
func TestArgumentsStay(t *testing.T) {
	overAll(t, func(a asked) {
		before, widths := memory(a.tensors()), slices.Clone(a.c.Widths[:cap(a.c.Widths)])
		hold := func(what string) {
			t.Helper()
			if !stays(a.tensors(), before) || !slices.Equal(a.c.Widths[:cap(a.c.Widths)], widths) {
				t.Errorf("P17.1, P17.2, P17.3: %s %v", what, a.c)
			}
		}
		told := a.answers()
		hold("asking changes what was handed in of")
		kept := memory(told)
		spoil(a.tensors())
		if !stays(told, kept) {
			t.Errorf("P17.1, P17.2, P17.3: an answer hangs on what was handed in of %v", a.c)
		}
		spoil(a.tensors())
		spoil(told)
		hold("an answer writes to what was handed in of")
	})
}

// P17.1, P17.2, P17.3: a call that tells an error changes nothing.
func TestArgumentsStayBesideErrors(t *testing.T) {
	overAll(t, func(a asked) {
		before := memory(a.tensors())
		wrong := a
		wrong.x, wrong.d = of(a.x.Rows+1, a.x.Cols, a.x.F, a.x.V...), of(a.d.Rows+1, a.d.Cols, a.d.F, a.d.V...)
		wrong.answers()
		wrong = a
		wrong.w = a.w[:len(a.w)-1]
		wrong.answers()
		wrong.p = a.p[:len(a.p)-1]
		wrong.answers()
		wrong = a
		wrong.left.K = nil
		wrong.answers()
		if !stays(a.tensors(), before) {
			t.Errorf("P17.1, P17.2, P17.3: an error changes what was handed in of %v", a.c)
		}
	})
}

// P17.1, P17.2, P17.3: no two tensors that are told share memory, of one answer or of
// two: the one stays when all over the other is written.
func TestAnswersShareNothing(t *testing.T) {
	overAll(t, func(a asked) {
		l := append(a.answers(), a.answers()...)
		for i, x := range l {
			kept := clones(l)
			spoil(l[i : i+1])
			for k, y := range l {
				if k != i && !alike(y, kept[k]) {
					t.Errorf("P17.1, P17.2, P17.3: answers %d and %d of %v share memory", i, k, a.c)
				}
			}
			spoil([]api.Tensor{x})
		}
	})
}

// P17.2: the lists of a trace share no memory: behind each there is room of its own.
func TestTraceListsShareNothing(t *testing.T) {
	overAll(t, func(a asked) {
		_, left, _ := Forward(a.c, a.p, a.w, a.x, a.micro)
		_, other, _ := Forward(a.c, a.p, a.w, a.x, a.micro)
		kept := Trace{X: slices.Clone(left.X), Z: slices.Clone(left.Z), K: slices.Clone(left.K)}
		clear(other.X[:cap(other.X)])
		clear(other.Z[:cap(other.Z)])
		clear(other.K[:cap(other.K)])
		holdTrace(t, "P17.2: a trace beside one that is written to", left, kept)
		clear(left.X[:cap(left.X)])
		holdTrace(t, "P17.2: a trace whose X is written to", left, Trace{X: make([]api.Tensor, len(kept.X)), Z: kept.Z, K: kept.K})
		clear(left.K[:cap(left.K)])
		holdTensors(t, "P17.2: a trace whose X and K are written to", left.Z, kept.Z)
	})
}

// P17.3: tensors that are one and the same in memory are taken as those that aren't.
func TestListsThatOverlap(t *testing.T) {
	for _, f := range layouts() {
		c := config(f, api.Tanh, 2, 2, 2)
		l, s := f.near(1, 9, 41).V, single.near(1, 9, 42).V
		at := func(from int) api.Tensor { return of(2, 2, f.f, l[from:from+4]...) }
		a := asked{c: c, x: at(3), d: at(2), w: []api.Tensor{at(0), at(1)}}
		a.p = []api.Param{{W: of(2, 2, api.Single, s[:4]...), B: of(1, 2, api.Single, s[2:4]...)}, {W: of(2, 2, api.Single, s[1:5]...), B: of(1, 2, api.Single, s[3:5]...)}}
		a.left = Trace{X: []api.Tensor{at(4), at(4)}, Z: []api.Tensor{at(4), at(5)}, K: []api.Tensor{of(2, 2, api.Single, s[:4]...), {}}}
		apart := a
		apart.p = nil
		for _, q := range a.p {
			apart.p = append(apart.p, api.Param{W: roomy(q.W), B: roomy(q.B)})
		}
		apart.w, apart.x, apart.d = clones(a.w), roomy(a.x), roomy(a.d)
		apart.left = Trace{X: clones(a.left.X), Z: clones(a.left.Z), K: clones(a.left.K)}
		holdTensors(t, "P17.2, P17.3: of lists that lie over each other", a.answers(), apart.answers())
	}
}

// P17.1, P17.2, P17.3: the same arguments tell the same again, whatever was asked
// between, in any order, by many at once.
func TestSameAgain(t *testing.T) {
	var l []asked
	var first [][]api.Tensor
	overAll(t, func(a asked) { l, first = append(l, a), append(first, a.answers()) })
	again := func() {
		for i := len(l) - 1; i >= 0; i-- {
			holdTensors(t, "P17.1, P17.2, P17.3: asked again", l[i].answers(), first[i])
		}
	}
	again()
	var many sync.WaitGroup
	for range 4 {
		many.Go(again)
	}
	many.Wait()
}
