package act

import (
	"math"
	"math/big"
	"slices"
	"testing"

	"anneal/api"
	"anneal/philox"
	"anneal/tensor"
)

// drops are how many words of 2^32 are dropped: none, one, the most, and between.
func drops() []uint32 {
	return []uint32{0, 1, 2, 0x7f, 0x80, 0x81, 0xff, 0x100, 0x101, 0x10000, 0x147ae147, 0x1999999a, 0x2b1e1885, 1 << 30, 0x55555555, 0x7fffffff, 1 << 31, 0x80000001, 0xaaaaaaab, 0xc0000000, 0xe6666666, 0xfcfbac6e, 0xfeffffff, 0xff000000, 0xff000001, 0xffffff00, 0xfffffffd, 0xfffffffe, 0xffffffff}
}

// moreOf is what the document takes what isn't dropped times, by the machine's own floats.
func moreOf(drop uint32) uint32 {
	return bitsOf(float32(1<<32) / float32(1<<32-int64(drop)))
}

// masked is what the document says of Mask, of a shape that may be.
func masked(rows, cols int, drop uint32, seed uint64, stream uint32) api.Tensor {
	told := of(rows, cols, api.Single)
	for i := range rows * cols {
		v := moreOf(drop)
		if philox.Word(seed, stream, uint64(i)) < drop {
			v = 0
		}
		told.V = append(told.V, v)
	}
	return told
}

// holdMask holds a Mask against what the document says of the shape that it is to have.
func holdMask(t *testing.T, what string, got, want api.Tensor) {
	t.Helper()
	holdTensor(t, what, got, api.OK, want, api.OK)
}

// P15.3: masks that are written out, by the words of seed 0, stream 0, which are
// 0x6627e8d5, 0xe169c58d, 0xbc57ac4c, 0x9b00dbd8, 0xf8e4cca4, 0x5cb200db,
// 0xb1a574eb, 0x097eff67, 0x04faa329, 0x51c732a6, 0x241513ad, 0x459135e4.
func TestMaskRows(t *testing.T) {
	const one, two, four, ten = 0x3f800000, 0x40000000, 0x40800000, 0x41200000
	for _, x := range []struct {
		drop uint32
		want []uint32
	}{
		{0, []uint32{one, one, one, one, one, one, one, one, one, one, one, one}},
		{1, []uint32{one, one, one, one, one, one, one, one, one, one, one, one}},
		{1 << 30, []uint32{0x3faaaaab, 0x3faaaaab, 0x3faaaaab, 0x3faaaaab, 0x3faaaaab, 0x3faaaaab, 0x3faaaaab, 0, 0, 0x3faaaaab, 0, 0x3faaaaab}},
		{1 << 31, []uint32{0, two, two, two, two, 0, two, 0, 0, 0, 0, 0}},
		{0xc0000000, []uint32{0, four, 0, 0, four, 0, 0, 0, 0, 0, 0, 0}},
		{0xe6666666, []uint32{0, 0, 0, 0, ten, 0, 0, 0, 0, 0, 0, 0}},
		{0xffffffff, []uint32{0, 0, 0, 0, 0, 0, 0, 0, 0, 0, 0, 0}},
	} {
		for _, s := range []struct{ rows, cols int }{{1, 12}, {2, 6}, {3, 4}, {4, 3}, {6, 2}, {12, 1}} {
			holdMask(t, "P15.3: Mask of seed 0", Mask(s.rows, s.cols, x.drop, 0, 0), of(s.rows, s.cols, api.Single, x.want...))
		}
	}
}

// P15.3: a word that is drop isn't below it; the one before is.
func TestMaskIsOfWordsBelow(t *testing.T) {
	for _, x := range []struct {
		seed   uint64
		stream uint32
	}{{0, 0}, {1, 2}, {math.MaxUint64, math.MaxUint32}, {0x0123456789abcdef, 0xfedcba98}} {
		for at := range 24 {
			word := philox.Word(x.seed, x.stream, uint64(at))
			for _, drop := range []uint32{word - 1, word, word + 1} {
				got := Mask(4, 6, drop, x.seed, x.stream)
				holdMask(t, "P15.3: Mask at a word", got, masked(4, 6, drop, x.seed, x.stream))
				if isDropped := got.V[at] == 0; isDropped != (drop == word+1) {
					t.Errorf("P15.3: of word %#x a drop of %#x drops: %v", word, drop, isDropped)
				}
			}
		}
	}
}

// P15.3: a drop of none drops nothing, not even a word of 0; a drop of one drops that
// one; the greatest drops all but the greatest word, which is taken times 2^32.
func TestMaskAtItsEnds(t *testing.T) {
	const one, most = 0x3f800000, 0x4f800000
	for _, x := range []struct {
		seed  uint64
		place int
		word  uint32
	}{{1343428, 3, 0}, {627779616, 2, 0}, {331010541, 29, 0}, {39896521, 61, math.MaxUint32}, {117837777, 47, math.MaxUint32}, {411988720, 23, math.MaxUint32}} {
		if got := philox.Word(x.seed, 0, uint64(x.place)); got != x.word {
			t.Fatalf("P15.3: word %d of seed %d is %#x, not %#x", x.place, x.seed, got, x.word)
		}
		all := slices.Repeat([]uint32{one}, 64)
		holdMask(t, "P15.3: a drop of none", Mask(8, 8, 0, x.seed, 0), of(8, 8, api.Single, all...))
		if x.word == 0 {
			all[x.place] = 0
		}
		holdMask(t, "P15.3: a drop of one", Mask(8, 8, 1, x.seed, 0), of(8, 8, api.Single, all...))
		none := make([]uint32, 64)
		if x.word != 0 {
			none[x.place] = most
		}
		holdMask(t, "P15.3: the greatest drop", Mask(8, 8, math.MaxUint32, x.seed, 0), of(8, 8, api.Single, none...))
	}
}

// kept is what a mask takes the numbers times that it doesn't drop: here is a word that is below no drop.
func kept(drop uint32) uint32 { return Mask(1, 62, drop, 39896521, 0).V[61] }

// P15.3: drops of which the quotient would be something else, were it reckoned in one of the other ways that are named.
func TestMaskJustSo(t *testing.T) {
	for _, x := range []struct{ drop, want uint32 }{
		// the quotient of the whole numbers, rounded once
		{0x7687a66e, 0x3fee5d51}, {0xfcfbac6e, 0x42a9b5ec}, {0x5f915ef0, 0x3fcc3f94}, {0xf37751aa, 0x41a36591}, {0xddd6ff55, 0x40efcfbc}, {0xfd38835e, 0x42b83901},
		// 1 by 1 less the part that is dropped
		{0x8de4ab47, 0x400f95b8}, {0xffb6fbfe, 0x446063e6}, {0xb339a476, 0x4055673c}, {0xfa78250f, 0x4239261d}, {0xba6ace6c, 0x406b75e5}, {0xf1076dc3, 0x4188cc48},
		// that part by 24 bits
		{0x2b5ebaa0, 0x3f9a1bad}, {0xf4174a67, 0x41abf871}, {0xf23b2cc4, 0x4194bdd7}, {0xf3868254, 0x41a42c87}, {0xf99de255, 0x42206b62},
		// drop rounded ahead of taking it away
		{0x2b1e1885, 0x3f99ece3}, {0xfcee5e2c, 0x42a6d61b}, {0xdf2965b3, 0x40f97702}, {0xfc801bdf, 0x42924db2}, {0xfdb119a9, 0x42ddd151}, {0xf72651da, 0x41e7677c},
		// 1 and the quotient of what is dropped
		{0xe323bb2a, 0x410deca9}, {0xfa8aa593, 0x423b99b2}, {0x6bf82959, 0x3fdd5c0f}, {0xf553fb51, 0x41bfe7af}, {0x32bba064, 0x3f9fa2cb}, {0xf0913158, 0x4184b43b},
		// one word more or less than there are
		{0x2638d17f, 0x3f967711}, {0xff7a9631, 0x43f59cd8}, {0xec562110, 0x41504dda}, {0xfa26689b, 0x422f0b32}, {0x1347cf7f, 0x3f8a6ce9},
		// to the nearest, the even one
		{0x7f, 0x3f800000}, {0x80, 0x3f800000}, {0x81, 0x3f800001}, {0x100, 0x3f800001}, {0x180, 0x3f800001}, {0x66666666, 0x3fd55555}, {0x1999999a, 0x3f8e38e4}, {0xff000001, 0x43800001}, {0xfeffffff, 0x43800000},
		// of few words that are kept
		{0xffffff00, 0x4b800000}, {0xfffffffd, 0x4eaaaaab}, {0xfffffffe, 0x4f000000}, {0xffffffff, 0x4f800000},
	} {
		if got := kept(x.drop); got != x.want {
			t.Errorf("P15.3: a drop of %#x makes up by %#08x, not %#08x", x.drop, got, x.want)
		}
	}
}

// P15.3: masks of all sorts are of the words of their places, of zeros and one more number alone.
func TestMaskOfMany(t *testing.T) {
	for _, drop := range drops() {
		for _, s := range []struct{ rows, cols int }{{1, 1}, {1, 7}, {7, 1}, {5, 13}, {13, 5}, {1, 4096}, {4096, 1}} {
			for _, x := range []struct {
				seed   uint64
				stream uint32
			}{{0, 0}, {1, 0}, {0, 1}, {1 << 32, 1 << 16}, {math.MaxUint64, math.MaxUint32}} {
				holdMask(t, "P15.3: Mask", Mask(s.rows, s.cols, drop, x.seed, x.stream), masked(s.rows, s.cols, drop, x.seed, x.stream))
			}
		}
	}
}

// P15.3: as many numbers as a mask has at most, each by the word of its place, the last one too.
func TestMaskAtMost(t *testing.T) {
	for _, s := range []struct{ rows, cols int }{{512, 512}, {4096, 64}, {64, 4096}} {
		holdMask(t, "P15.3: Mask at most", Mask(s.rows, s.cols, 1<<31, 3, 4), masked(s.rows, s.cols, 1<<31, 3, 4))
	}
}

// P15.3: a mask has the shape that tensor.New makes, whatever rows and columns are asked.
func TestMaskOfOtherShapes(t *testing.T) {
	for _, x := range []struct{ rows, cols, r, c int }{
		{0, 0, 0, 0}, {0, 5, 0, 5}, {5, 0, 5, 0}, {-1, 5, 0, 5}, {5, -1, 5, 0}, {-1, -1, 0, 0}, {math.MinInt, 7, 0, 7}, {7, math.MinInt, 7, 0}, {math.MinInt, math.MaxInt, 0, 4096},
		{4096, 1, 4096, 1}, {4097, 1, 4096, 1}, {1, 4097, 1, 4096}, {math.MaxInt, 2, 4096, 2}, {2, 1 << 32, 2, 4096}, {1<<32 + 1, 1, 4096, 1}, {api.MaxCells, 1, 4096, 1},
		{512, 512, 512, 512}, {513, 512, 0, 0}, {512, 513, 0, 0}, {4096, 65, 0, 0}, {65, 4096, 0, 0}, {65, 4033, 0, 0}, {4097, 64, 4096, 64}, {64, math.MaxInt, 64, 4096},
		{4096, 4096, 0, 0}, {math.MaxInt, math.MaxInt, 0, 0}, {1 << 32, 1 << 32, 0, 0}, {1 << 16, 1 << 16, 0, 0}, {math.MaxInt, 65, 0, 0},
	} {
		for _, drop := range []uint32{0, 1 << 31, math.MaxUint32} {
			holdMask(t, "P15.3: Mask of another shape", Mask(x.rows, x.cols, drop, 1, 2), masked(x.r, x.c, drop, 1, 2))
		}
	}
	ends := []int{math.MinInt, -4096, -1, 0, 1, 2, 63, 64, 65, 4095, 4096, 4097, math.MaxInt}
	for _, rows := range ends {
		for _, cols := range ends {
			got, as := Mask(rows, cols, 1<<31, 9, 9), tensor.New(rows, cols, api.Single)
			if got.Rows != as.Rows || got.Cols != as.Cols || got.F != api.Single || !tensor.Right(got) {
				t.Errorf("P15.3: Mask(%d, %d) is %d times %d of format %d, %d numbers", rows, cols, got.Rows, got.Cols, got.F, len(got.V))
			}
		}
	}
}

// P15.3: the place in V counts, not the row or the column: masks of other shapes have the same numbers in their order.
func TestMaskIsByPlace(t *testing.T) {
	long := Mask(1, 4096, 1<<31, 5, 6)
	for _, s := range []struct{ rows, cols int }{{4096, 1}, {64, 64}, {2, 2048}, {100, 40}, {3, 5}, {1, 1}} {
		holdMask(t, "P15.3: Mask by place", Mask(s.rows, s.cols, 1<<31, 5, 6), of(s.rows, s.cols, api.Single, long.V[:s.rows*s.cols]...))
	}
}

// P15.3: each bit of the seed and of the stream makes other words, and no two of these are the same.
func TestMaskHangsOnAll(t *testing.T) {
	var l []api.Tensor
	for bit := range 64 {
		l = append(l, Mask(16, 16, 1<<31, 5^1<<bit, 6))
	}
	for bit := range 32 {
		l = append(l, Mask(16, 16, 1<<31, 5, 6^1<<bit))
	}
	l = append(l, Mask(16, 16, 1<<31, 5, 6), Mask(16, 16, 1<<31, 6, 5))
	for i, x := range l {
		for k, y := range l[:i] {
			if alike(x, y) {
				t.Errorf("P15.3: masks %d and %d are the same", i, k)
			}
		}
	}
}

// P15.3: masks are as they were reckoned elsewhere, by another program in another language.
func TestMaskSameEverywhere(t *testing.T) {
	const seed, stream = 0x0123456789abcdef, 0xfedcba98
	for _, x := range []struct {
		drop   uint32
		at0, s uint64 // of seed 0, stream 0, and of those
	}{
		{0, 0x25891384086cdf65, 0x25891384086cdf65},
		{1, 0x25891384086cdf65, 0x25891384086cdf65},
		{0x147ae147, 0xb1e85e0b3a3dc579, 0x94c35f0699548899},
		{0x40000000, 0xaef066b1b4346a3d, 0x5d36574d315df9e8},
		{0x55555555, 0x99e020aa5becdf65, 0xda6a6c899eacdf65},
		{0x80000000, 0x7403b24a986cdf65, 0x61542193986cdf65},
		{0x80000001, 0x7403b24a986cdf65, 0x61542193986cdf65},
		{0xc0000000, 0x332f8898b8ecdf65, 0xa82e0470ea6cdf65},
		{0xe6666666, 0xb83717dd958cdf65, 0xd4eb08c6b48cdf65},
		{0xffffff00, 0x79b4da79586cdf65, 0x79b4da79586cdf65},
		{0xffffffff, 0x79b4da79586cdf65, 0x79b4da79586cdf65},
	} {
		for _, s := range []struct{ rows, cols int }{{50, 40}, {40, 50}, {1, 2000}} {
			if got := [2]uint64{digest(Mask(s.rows, s.cols, x.drop, 0, 0).V), digest(Mask(s.rows, s.cols, x.drop, seed, stream).V)}; got != [2]uint64{x.at0, x.s} {
				t.Errorf("P15.3: masks of a drop of %#x make %#x, not %#x, %#x", x.drop, got, x.at0, x.s)
			}
		}
	}
}

// P15.4: what isn't dropped is taken times as much as makes up for what is: its share
// times that is 1, but for what two roundings lose.
func TestMadeUpFor(t *testing.T) {
	for _, drop := range drops() {
		share := big.NewRat(1<<32-int64(drop), 1<<32)
		all := share.Mul(share, new(big.Rat).SetFloat64(float64(float(kept(drop)))))
		lost, _ := all.Sub(all, big.NewRat(1, 1)).Float64()
		if math.Abs(lost) > 1.01/(1<<23) {
			t.Errorf("P15.4: of a drop of %#x the others are off by %v", drop, lost)
		}
	}
}

// P15.4: on the whole a mask's numbers are 1, each in turn, at all places and over all streams.
func TestMadeUpForOnTheWhole(t *testing.T) {
	mean := func(l []uint32) float64 {
		so := 0.0
		for _, v := range l {
			so += float64(float(v))
		}
		return so / float64(len(l))
	}
	for _, drop := range []uint32{0, 1, 0x147ae147, 1 << 30, 0x55555555, 1 << 31, 0xc0000000, 0xe6666666, 0xf0000000} {
		spread := math.Sqrt(float64(drop) / (1<<32 - float64(drop)))
		if got := mean(Mask(512, 512, drop, 21, 22).V); math.Abs(got-1) > 5*spread/512+1e-6 {
			t.Errorf("P15.4: a drop of %#x makes of 1 %v at all places", drop, got)
		}
		var l []uint32
		for stream := range uint32(4096) {
			l = append(l, Mask(1, 3, drop, 23, stream).V[2])
		}
		if got := mean(l); math.Abs(got-1) > 5*spread/64+1e-6 {
			t.Errorf("P15.4: a drop of %#x makes of 1 %v over all streams", drop, got)
		}
	}
}
