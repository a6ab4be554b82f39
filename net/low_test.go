package net

import (
	"math"
	"testing"

	"anneal/api"
	"anneal/chance"
	"anneal/philox"
	"anneal/tensor"
)

// micros are numbers of batches: below 0, 0, above, and those where 64 times it goes round 2^32.
func micros() []int {
	return []int{0, 1, 2, 3, 63, 64, 65, 1000, 1<<24 - 1, 1 << 24, 1<<24 + 1, 3 << 24, 1<<25 - 1, 1 << 26, 1<<26 - 1, 1<<26 + 1, 1<<32 - 1, 1 << 32, 1 << 58, 1<<58 - 1, 1 << 62, math.MaxInt - 1, math.MaxInt, -1, -2, -3, -64, -1 << 24, -1 << 26, -1<<26 - 1, -1 << 57, math.MinInt + 1, math.MinInt}
}

// P17.1: weights that are written out: each the nearest of c's format, of two the even
// one; those above the greatest are infinities, those that are too small noughts.
func TestLowRows(t *testing.T) {
	w := of(2, 6, api.Single, 0x3f801000, 0x3f803000, 0x3f800fff, 0xbf801001, 0x477fefff, 0x477ff000, 0x33000000, 0x33000001, 0x80000001, 0x7f800001, 0xff800000, 0xc2f6e979)
	p := []api.Param{{W: w, B: single.near(1, 2, 1)}}
	for _, x := range []struct {
		w    layout
		want []uint32
	}{
		{half, []uint32{0x3c00, 0x3c02, 0x3c00, 0xbc01, 0x7bff, 0x7c00, 0x0000, 0x0001, 0x8000, 0x7e00, 0xfc00, 0xd7b7}},
		{brain, []uint32{0x3f80, 0x3f80, 0x3f80, 0xbf80, 0x4780, 0x4780, 0x3300, 0x3300, 0x8000, 0x7fc0, 0xff80, 0xc2f7}},
		{single, []uint32{0x3f801000, 0x3f803000, 0x3f800fff, 0xbf801001, 0x477fefff, 0x477ff000, 0x33000000, 0x33000001, 0x80000001, 0x7fc00000, 0xff800000, 0xc2f6e979}},
	} {
		for _, micro := range micros() {
			holdTensors(t, "P17.1: Low in "+x.w.name, low(t, config(x.w, api.Relu, 6, 2), p, micro), []api.Tensor{of(2, 6, x.w.f, x.want...)})
		}
	}
}

// P17.1: by chance, each weight by the word of its place, of the batch's and the layer's stream; words are written out.
func TestLowByChanceRows(t *testing.T) {
	c := config(half, api.Relu, 2, 2, 2)
	c.Chance, c.Seed = true, 0
	for i, words := range [][]uint32{{0x1eedf69c, 0xd6e0c9d3, 0xd8a35fee, 0x613fba48}, {0x0313ed7f, 0xd47b4f0a, 0x93609bea, 0xab5afb24}} {
		for place, word := range words {
			// of a unit's 2^13 parts above 1.0 as many as the word is of 2^32 are the lower one, one part more is the upper one
			for more, want := range []uint32{0x3c00, 0x3c01} {
				p := params(c.Widths, single.near, 3)
				p[i].W.V[place] = 0x3f800000 + word>>19 + uint32(more)
				if got := low(t, c, p, 0)[i].V[place]; got != want {
					t.Errorf("P17.1: by word %#x layer %d's weight %#x is %#x, not %#x", word, i, p[i].W.V[place], got, want)
				}
			}
		}
	}
}

// P17.1: weights of all kinds, in each format, by each batch, with and without chance.
func TestLowOfMany(t *testing.T) {
	for _, widths := range manyWidths() {
		for k, made := range []maker{single.near, single.tiny, single.mixed, single.few, halfTiny, halfGreat} {
			p := params(widths, made, uint64(k+1))
			for _, w := range layouts() {
				c := config(w, api.Gelu, widths...)
				for _, micro := range []int{0, 1, 1<<26 - 1, -1} {
					for _, c.Chance = range []bool{false, true} {
						holdTensors(t, "P17.1: Low in "+w.name, low(t, c, p, micro), lowered(c, p, micro))
					}
				}
			}
		}
	}
}

// halfTiny and halfGreat make Singles where Half's least and greatest numbers are.
func halfTiny(rows, cols int, seed uint64) api.Tensor { return single.at(100, rows, cols, seed) }

func halfGreat(rows, cols int, seed uint64) api.Tensor { return single.at(136, rows, cols, seed) }

// P17.1: the stream is 0x40000000, 64 times micro and the layer together, round 2^32,
// and the seed is c's: each layer of each batch has words of its own.
func TestLowStreams(t *testing.T) {
	for _, seed := range []uint64{0, 1, 1 << 32, math.MaxUint64} {
		for _, micro := range micros() {
			c := config(brain, api.Relu, deep()...)
			c.Chance, c.Seed = true, seed
			p := params(c.Widths, single.near, 3)
			for i, w := range low(t, c, p, micro) {
				want, _ := tensor.Chance(p[i].W, api.Brain, seed, streamOf(0x40000000, micro, i))
				holdTensor(t, "P17.1: Low by chance", w, want)
			}
		}
	}
}

// P17.1: streams that are written out, those at the bound among them.
func TestLowStreamRows(t *testing.T) {
	for _, x := range []struct {
		micro, layer int
		stream       uint32
	}{
		{0, 0, 0x40000000}, {0, 63, 0x4000003f}, {1, 0, 0x40000040}, {1, 63, 0x4000007f}, {3, 2, 0x400000c2}, {1 << 24, 0, 0x80000000}, {1<<24 - 1, 63, 0x7fffffff},
		{3<<24 - 1, 0, 0xffffffc0}, {3<<24 - 1, 63, 0xffffffff}, {3 << 24, 0, 0}, {3 << 24, 63, 63}, {1 << 26, 0, 0x40000000}, {1 << 62, 5, 0x40000005}, {math.MaxInt, 0, 0x3fffffc0},
		{-1, 0, 0x3fffffc0}, {-1, 63, 0x3fffffff}, {-1 << 24, 0, 0}, {-1<<24 - 1, 63, 0xffffffff}, {math.MinInt, 1, 0x40000001},
	} {
		c := config(half, api.Relu, deep()...)
		c.Chance, c.Seed = true, 77
		p := params(c.Widths, single.near, 3)
		got := low(t, c, p, x.micro)[x.layer]
		for place, v := range p[x.layer].W.V {
			if want := chance.Narrow(api.Half, v, philox.Word(77, x.stream, uint64(place))); got.V[place] != want {
				t.Errorf("P17.1: by micro %d layer %d's weight %d is %#x, not %#x", x.micro, x.layer, place, got.V[place], want)
			}
		}
	}
}

// P17.1: without chance neither micro nor the seed say anything; with it each seed, each
// batch and each layer draws other weights.
func TestLowHangsOn(t *testing.T) {
	c := config(half, api.Relu, 9, 9, 9)
	p := params(c.Widths, single.near, 3)
	p[1] = p[0]
	var drawn []api.Tensor
	for _, micro := range []int{0, 1, -1, 1 << 20} {
		for _, c.Seed = range []uint64{0, 1, 1 << 63} {
			c.Chance = false
			holdTensors(t, "P17.1: Low without chance", low(t, c, p, micro), lowered(c, p, 0))
			c.Chance = true
			drawn = append(drawn, low(t, c, p, micro)...)
		}
	}
	for i, a := range drawn {
		for k, b := range drawn[:i] {
			if alike(a, b) {
				t.Errorf("P17.1: by chance weights %d and %d are the same", i, k)
			}
		}
	}
}

// P17.1: as many weights as there may be, the last one too.
func TestLowAtMost(t *testing.T) {
	for _, widths := range [][]int{{4096, 15}, {15, 4096}, {255, 256}} {
		p := params(widths, single.near, 9)
		for _, w := range layouts() {
			c := config(w, api.Relu, widths...)
			for _, c.Chance = range []bool{false, true} {
				holdTensors(t, "P17.1: Low at most", low(t, c, p, 5), lowered(c, p, 5))
			}
		}
	}
}
