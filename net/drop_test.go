package net

import (
	"math"
	"testing"

	"anneal/act"
	"anneal/api"
	"anneal/philox"
)

// drops are how many of 2^32 words are dropped: of those that may be the least, the most, and between.
func drops() []uint32 {
	return []uint32{1, 2, 0xff, 0x147ae147, 1 << 30, 0x55555555, 1<<31 - 1}
}

// P17.2: masks that are written out, of seed 0, a drop of a quarter, two hidden layers of
// four, two batches; in each format 3 is dropped, or, times 4 / 3, becomes 4.
func TestDropRows(t *testing.T) {
	const more = 0x3faaaaab
	for _, r := range []struct {
		micro      int
		k1, k2     []uint32
		x1, z1, x2 []float32
		z          []float32
	}{
		{0, []uint32{more, 0, more, 0, 0, 0, 0, more}, []uint32{0, more, more, more, more, more, 0, more},
			[]float32{4, 0, 4, 0, minus(0), minus(0), minus(0), -4}, []float32{3, 0, 3, 0, 0, 0, 0, -3}, []float32{0, 0, 4, 0, 0, 0, 0, -4}, []float32{16, -32}},
		{1, []uint32{more, 0, more, 0, more, more, 0, more}, []uint32{more, more, more, 0, more, more, more, more},
			[]float32{4, 0, 4, 0, -4, -4, minus(0), -4}, []float32{3, 0, 3, 0, -3, -3, 0, -3}, []float32{4, 0, 4, 0, -4, -4, 0, -4}, []float32{20, -44}},
	} {
		for _, w := range layouts() {
			c := config(w, api.Linear, 1, 4, 4, 1)
			c.Drop, c.Seed = 1<<30, 0
			p := []api.Param{{W: single.of(4, 1, 1, 1, 1, 1), B: single.of(1, 4, 0, 0, 0, 0)}, {W: single.of(4, 4, 0.75, 0, 0, 0, 0, 0.75, 0, 0, 0, 0, 0.75, 0, 0, 0, 0, 0.75), B: single.of(1, 4, 0, 0, 0, 0)}, {W: single.of(1, 4, 1, 2, 4, 8), B: single.of(1, 1, 0)}}
			x := w.of(2, 1, 3, -3)
			z, left := forward(t, c, p, low(t, c, p, r.micro), x, r.micro)
			what := "P17.2: Forward with Drop, " + w.name
			holdTensor(t, what, z, w.of(2, 1, r.z...))
			holdTrace(t, what, left, Trace{
				X: []api.Tensor{x, w.of(2, 4, r.x1...), w.of(2, 4, r.x2...)},
				Z: []api.Tensor{w.of(2, 4, 3, 3, 3, 3, -3, -3, -3, -3), w.of(2, 4, r.z1...), w.of(2, 1, r.z...)},
				K: []api.Tensor{of(2, 4, api.Single, r.k1...), of(2, 4, api.Single, r.k2...), {}},
			})
		}
	}
}

// minus is x with the other sign.
func minus(x float32) float32 { return float32(math.Copysign(float64(x), -1)) }

// P17.2: nets of all kinds with Drop are as the document says, number by number.
func TestDropOfMany(t *testing.T) {
	n := 0
	asks(func(c api.Config, p []api.Param, x api.Tensor) {
		n++
		c.Drop = drops()[n%len(drops())]
		c.Chance = n%2 == 0
		for _, micro := range []int{0, 1, 1 << 25} {
			w := low(t, c, p, micro)
			z, left := forward(t, c, p, w, x, micro)
			wantZ, want := forwards(c, p, w, x, micro)
			what := "P17.2: Forward with Drop, " + kinds()[c.Act] + ", " + layouts()[c.F].name
			holdTensor(t, what, z, wantZ)
			holdTrace(t, what, left, want)
		}
	})
}

// P17.2: a hidden number is dropped by a word below Drop, not by one that is Drop.
func TestDropIsOfWordsBelow(t *testing.T) {
	for _, f := range layouts() {
		c := config(f, api.Linear, 1, 6, 1)
		p := params(c.Widths, single.light, 3)
		w, x := low(t, c, p, 0), f.near(2, 1, 4)
		for place := range 12 {
			word := philox.Word(c.Seed, 0x80000000+64*5, uint64(place))
			if word < 2 || word > 1<<31-2 {
				continue // no Drop that may be
			}
			for _, c.Drop = range []uint32{word - 1, word, word + 1} {
				z, left := forward(t, c, p, w, x, 5)
				wantZ, want := forwards(c, p, w, x, 5)
				holdTensor(t, "P17.2: Forward with Drop at a word", z, wantZ)
				holdTrace(t, "P17.2: Forward with Drop at a word", left, want)
				if isDropped := left.K[0].V[place] == 0; isDropped != (c.Drop == word+1) {
					t.Errorf("P17.2: of word %#x a Drop of %#x drops: %v", word, c.Drop, isDropped)
				}
			}
		}
	}
}

// P17.2: nothing is dropped of a batch below 0, and nothing by a Drop of none; each mask is of nothing then.
func TestNothingIsDropped(t *testing.T) {
	asks(func(c api.Config, p []api.Param, x api.Tensor) {
		w := low(t, c, p, 0)
		want, wantLeft := forwards(c, p, w, x, -1)
		hold := func(micro int) {
			z, left := forward(t, c, p, w, x, micro)
			holdTensor(t, "P17.2: nothing is dropped", z, want)
			holdTrace(t, "P17.2: nothing is dropped", left, wantLeft)
		}
		hold(0)
		hold(math.MaxInt)
		c.Drop = 1 << 30
		for _, micro := range []int{-1, -2, -64, -1 << 32, math.MinInt} {
			hold(micro)
		}
	})
}

// P17.2: a mask is there from micro 0 and a Drop of 1 on, ones though it has; only the last layer has none.
func TestMaskIsThere(t *testing.T) {
	for _, w := range layouts() {
		for _, widths := range manyWidths() {
			c := config(w, api.Tanh, widths...)
			c.Drop = 1
			p, x := params(widths, single.light, 3), w.near(2, widths[0], 4)
			plain, _ := forwards(c, p, low(t, c, p, 0), x, -1)
			z, left := forward(t, c, p, low(t, c, p, 0), x, 0)
			holdTensor(t, "P17.2: a mask of ones", z, plain)
			for i, k := range left.K {
				want := single.of(2, widths[i+1])
				for range 2 * widths[i+1] {
					want.V = append(want.V, math.Float32bits(1))
				}
				if i == len(p)-1 {
					want = api.Tensor{}
				}
				holdTensor(t, "P17.2: a mask of ones", k, want)
			}
		}
	}
}

// P17.2: the stream is 0x80000000, 64 times micro and the layer together, round 2^32, and the seed is c's.
func TestDropStreams(t *testing.T) {
	for _, seed := range []uint64{0, 1, 1 << 32, math.MaxUint64} {
		for _, micro := range micros() {
			if micro < 0 {
				continue
			}
			c := config(brain, api.Relu, deep()...)
			c.Drop, c.Seed = 1<<30, seed
			p := params(c.Widths, single.light, 3)
			_, left := forward(t, c, p, low(t, c, p, micro), brain.near(7, c.Widths[0], 4), micro)
			for i, k := range left.K[:len(p)-1] {
				holdTensor(t, "P17.2: a layer's mask", k, act.Mask(7, c.Widths[i+1], 1<<30, seed, streamOf(0x80000000, micro, i)))
			}
		}
	}
}

// P17.2: streams that are written out, those at the bound among them.
func TestDropStreamRows(t *testing.T) {
	for _, x := range []struct {
		micro, layer int
		stream       uint32
	}{
		{0, 0, 0x80000000}, {0, 62, 0x8000003e}, {1, 0, 0x80000040}, {1, 62, 0x8000007e}, {3, 2, 0x800000c2}, {1 << 24, 0, 0xc0000000}, {1<<25 - 1, 0, 0xffffffc0}, {1<<25 - 1, 62, 0xfffffffe},
		{1 << 25, 0, 0}, {1 << 25, 62, 62}, {1 << 26, 0, 0x80000000}, {1<<26 - 1, 61, 0x7ffffffd}, {1 << 62, 5, 0x80000005}, {math.MaxInt, 0, 0x7fffffc0}, {math.MaxInt, 62, 0x7ffffffe},
	} {
		c := config(half, api.Relu, deep()...)
		c.Drop, c.Seed = 1<<30, 77
		p := params(c.Widths, single.light, 3)
		_, left := forward(t, c, p, low(t, c, p, 0), half.near(9, c.Widths[0], 4), x.micro)
		holdTensor(t, "P17.2: a mask by its stream", left.K[x.layer], act.Mask(9, c.Widths[x.layer+1], 1<<30, 77, x.stream))
	}
}

// P17.2: each seed, each batch and each layer drops others, and no mask is by the words that weights are drawn by.
func TestMasksHangOn(t *testing.T) {
	c := config(half, api.Relu, 16, 16, 16, 16)
	c.Drop = 1 << 30
	p, x := params(c.Widths, single.near, 3), half.near(16, 16, 4)
	var all []api.Tensor
	for _, micro := range []int{0, 1, 2, 1 << 20, 1 << 24, 3 << 24} {
		for _, c.Seed = range []uint64{0, 1, 1 << 63} {
			_, left := forward(t, c, p, low(t, c, p, micro), x, micro)
			all = append(all, left.K[:2]...)
		}
	}
	for i, a := range all {
		for k, b := range all[:i] {
			if alike(a, b) {
				t.Errorf("P17.2: masks %d and %d are the same", i, k)
			}
		}
	}
}

// P17.2: what is dropped is taken times Zero, not left out: an infinity becomes the plain
// NaN, and what is below nought a nought with a sign.
func TestDropOfEdges(t *testing.T) {
	for _, w := range layouts() {
		edges := w.edges()
		c := config(w, api.Linear, 1, len(edges), 1)
		c.Drop = 1<<31 - 1
		p := params(c.Widths, single.near, 3)
		for place := range p[0].B.V {
			p[0].B.V[place] = math.Float32bits(float(w.f, edges[place]))
		}
		x := of(4, 1, w.f, 0, 0, 0, 0)
		l := []api.Tensor{w.near(len(edges), 1, 4), w.near(1, len(edges), 5)}
		for micro := range 8 {
			z, left := forward(t, c, p, l, x, micro)
			wantZ, want := forwards(c, p, l, x, micro)
			holdTensor(t, "P17.2: dropped edges, "+w.name, z, wantZ)
			holdTrace(t, "P17.2: dropped edges, "+w.name, left, want)
			for place, v := range left.X[1].V {
				v, number := float(w.f, v), float(w.f, left.Z[0].V[place])
				isDropped := left.K[0].V[place] == 0
				switch {
				case isDropped && (math.IsInf(float64(number), 0) || number != number):
					if v == v {
						t.Errorf("P17.2: %v is dropped to %v", number, v)
					}
				case isDropped && (v != 0 || math.Signbit(float64(v)) != math.Signbit(float64(number))):
					t.Errorf("P17.2: %v is dropped to %v", number, v)
				}
			}
		}
	}
}
