package philox

import (
	"math"
	"math/big"
	"sync"
	"testing"
)

// asked is what Word is asked.
type asked struct {
	seed   uint64
	stream uint32
	n      uint64
}

// written is a word that is written out, and what is below 2, 1000 and the greatest number by it.
type written struct {
	asked
	want                    uint32
	ofTwo, ofMany, ofOthers uint32
}

// words are reckoned apart from this program.
func words() []written {
	return []written{
		{asked{0, 0, 0}, 0x6627e8d5, 0, 399, 1713891540},
		{asked{0, 0, 1}, 0xe169c58d, 1, 880, 3781805452},
		{asked{0, 0, 2}, 0xbc57ac4c, 1, 735, 3159862347},
		{asked{0, 0, 3}, 0x9b00dbd8, 1, 605, 2600524759},
		{asked{0, 0, 4}, 0xf8e4cca4, 1, 972, 4175744163},
		{asked{0, 1, 0}, 0x844515e1, 1, 516, 2219120096},
		{asked{0, 2, 0}, 0x0661d677, 0, 24, 107075190},
		{asked{0, ones, 0}, 0x7bfa44e7, 0, 484, 2079999206},
		{asked{1, 0, 0}, 0xe3e80670, 1, 890, 3823634031},
		{asked{1 << 32, 0, 0}, 0xfdde3e0b, 1, 991, 4259200522},
		{asked{0x0123456789abcdef, 7, 0}, 0x34b23a77, 0, 205, 884095606},
		{asked{0x0123456789abcdef, 7, 1}, 0x8ec43d26, 1, 557, 2395225381},
		{asked{0x0123456789abcdef, 7, 2}, 0xfdbf9305, 1, 991, 4257190660},
		{asked{0x0123456789abcdef, 7, 3}, 0xa6c02cf2, 1, 651, 2797612273},
		{asked{0x0123456789abcdef, 7, 4}, 0xf9a36445, 1, 975, 4188234820},
		{asked{0x0123456789abcdef, 8, 4}, 0x7d59c5e3, 0, 489, 2103035362},
		{asked{0, 0, 1<<34 - 1}, 0x2a1ef7a5, 0, 164, 706672548},
		{asked{0, 0, 1 << 34}, 0x6ad0c5ec, 0, 417, 1792067051},
		{asked{0, 0, 1<<34 + 1}, 0xea236249, 1, 914, 3928187464},
		{asked{0, 0, 1<<34 + 4}, 0x6da11836, 0, 428, 1839274037},
		{asked{0, 0, 1 << 63}, 0x2a24c734, 0, 164, 707053363},
		{asked{0, 0, math.MaxUint64}, 0x31eb18f7, 0, 194, 837490934},
		{asked{math.MaxUint64, ones, math.MaxUint64 - 3}, 0x57fde136, 0, 343, 1476256053},
		{asked{math.MaxUint64, ones, math.MaxUint64 - 2}, 0x5796c2ed, 0, 342, 1469498092},
		{asked{math.MaxUint64, ones, math.MaxUint64 - 1}, 0xd8bb1852, 1, 846, 3636140113},
		{asked{math.MaxUint64, ones, math.MaxUint64}, 0xa9402a01, 1, 661, 2839554560},
	}
}

// questions are those of words, and others: each seed with each stream and n at the edges, and some without a pattern.
func questions() []asked {
	var l []asked
	for _, x := range words() {
		l = append(l, x.asked)
	}
	for _, seed := range []uint64{0, 1, ones, 1 << 32, 1 << 63, math.MaxUint64, 0xfedcba9876543210} {
		for _, stream := range []uint32{0, 1, 2, 1 << 31, ones} {
			for _, n := range []uint64{0, 4, ones - 3, 1 << 32, 1<<34 - 4, 1 << 34, 1<<34 + 8, 1 << 63, math.MaxUint64 - 7, math.MaxUint64 - 3} {
				for at := range uint64(4) {
					l = append(l, asked{seed, stream, n + at})
				}
			}
		}
	}
	c := chain(0x2545f4914f6cdd1d)
	for range 2000 {
		l = append(l, asked{c.next(), c.word(), c.next() >> (c.next() & 63)})
	}
	return l
}

// told is the word, its number parted by big numbers.
func (q asked) told() uint32 {
	four, word := big.NewInt(4), big.NewInt(1<<32)
	at, in := new(big.Int).DivMod(new(big.Int).SetUint64(q.n), four, new(big.Int))
	atHigh, atLow := new(big.Int).DivMod(at, word, new(big.Int))
	keyHigh, keyLow := new(big.Int).DivMod(new(big.Int).SetUint64(q.seed), word, new(big.Int))
	key := [2]uint32{uint32(keyLow.Uint64()), uint32(keyHigh.Uint64())}
	return reckoned(key, [4]uint32{uint32(atLow.Uint64()), uint32(atHigh.Uint64()), q.stream, 0})[in.Int64()]
}

// mosts are numbers for Below, at the edges and between them.
func mosts() []uint32 {
	return []uint32{0, 1, 2, 3, 4, 10, 255, 256, 1000, 1<<16 - 1, 1 << 16, 1<<31 - 1, 1 << 31, 1<<31 + 1, ones - 1, ones}
}

// P10.2: words that are written out.
func TestWordWrittenOut(t *testing.T) {
	for _, x := range words() {
		if got := Word(x.seed, x.stream, x.n); got != x.want {
			t.Errorf("P10.2: Word(%#x, %#x, %#x) is %#x, not %#x", x.seed, x.stream, x.n, got, x.want)
		}
	}
}

// P10.2: words at all the edges at once, and without a pattern.
func TestWord(t *testing.T) {
	for _, q := range questions() {
		if got, want := Word(q.seed, q.stream, q.n), q.told(); got != want {
			t.Fatalf("P10.2: Word(%#x, %#x, %#x) is %#x, not %#x", q.seed, q.stream, q.n, got, want)
		}
	}
}

// P10.2: four words behind one another are those of one Block, and the next ones are of the next.
func TestWordsOfABlock(t *testing.T) {
	const seed, stream = 0x0123456789abcdef, 0x89
	key := [2]uint32{0x89abcdef, 0x01234567}
	for _, x := range []struct {
		n   uint64
		ctr [4]uint32
	}{
		{0, [4]uint32{0, 0, stream, 0}},
		{4, [4]uint32{1, 0, stream, 0}},
		{1<<34 - 4, [4]uint32{ones, 0, stream, 0}},
		{1 << 34, [4]uint32{0, 1, stream, 0}},
		{math.MaxUint64 - 3, [4]uint32{ones, 0x3fffffff, stream, 0}},
	} {
		block := Block(key, x.ctr)
		for at, want := range block {
			if got := Word(seed, stream, x.n+uint64(at)); got != want {
				t.Errorf("P10.2: Word %#x is %#x, not %#x, word %d of the block of %08x", x.n+uint64(at), got, want, at, x.ctr)
			}
		}
	}
}

// P10.2: streams beside one another, seeds beside one another and their turned halves have words of their own.
func TestStreamsBesideOneAnother(t *testing.T) {
	seen := map[[4]uint32]asked{}
	for _, seed := range []uint64{0, 1, 2, 1 << 32, 2 << 32, 1<<32 + 2, 2<<32 + 1, math.MaxUint64} {
		for _, stream := range []uint32{0, 1, 2, 3, 4, 255, 256, 1 << 16, 1 << 31, ones - 1, ones} {
			for _, n := range []uint64{0, 4, 8, 1 << 32, 1 << 33, 1 << 34, 1 << 35, 1 << 63, math.MaxUint64 - 3} {
				here := asked{seed, stream, n}
				four := [4]uint32{}
				for at := range four {
					four[at] = Word(seed, stream, n+uint64(at))
				}
				if was, twice := seen[four]; twice {
					t.Errorf("P10.2: %#x has the words of %#x: %08x", here, was, four)
				}
				seen[four] = here
			}
		}
	}
}

// P10.2: Uniform at the edges.
func TestUniformAtEdges(t *testing.T) {
	for _, x := range []struct{ w, want uint32 }{
		{0, 0},
		{1, 0},
		{255, 0},
		{256, 0x33800000}, // 2^-24
		{511, 0x33800000},
		{512, 0x34000000},
		{0x300, 0x34400000},
		{0x3ff, 0x34400000},
		{0x40000000, 0x3e800000},
		{0x55555555, 0x3eaaaaaa},
		{0x7fffff00, 0x3efffffe},
		{0x7fffffff, 0x3efffffe},
		{0x80000000, 0x3f000000}, // 0.5
		{0x800000ff, 0x3f000000},
		{0x80000100, 0x3f000001},
		{0xc0000000, 0x3f400000},
		{0xfffffeff, 0x3f7ffffe},
		{0xffffff00, 0x3f7fffff},
		{ones, 0x3f7fffff}, // just below 1.0
	} {
		if got := Uniform(x.w); got != x.want {
			t.Errorf("P10.2: Uniform(%#x) is %#x, not %#x", x.w, got, x.want)
		}
	}
}

// P10.2: Uniform of all upper 24 bits, exact, whatever the lower 8 are.
func TestUniform(t *testing.T) {
	for size := range uint32(1 << 24) {
		want := math.Float32bits(float32(size) / (1 << 24))
		for _, low := range []uint32{0, size & 255, 255} {
			if got := Uniform(size<<8 | low); got != want {
				t.Fatalf("P10.2: Uniform(%#x) is %#x, not %#x", size<<8|low, got, want)
			}
		}
	}
}

// P10.2: Below by words that are written out; of 0 and of 1 there is nought alone.
func TestBelowWrittenOut(t *testing.T) {
	for _, x := range words() {
		for most, want := range map[uint32]uint32{0: 0, 1: 0, 2: x.ofTwo, 1000: x.ofMany, ones: x.ofOthers} {
			if got := Below(x.seed, x.stream, x.n, most); got != want {
				t.Errorf("P10.2: Below(%#x, %#x, %#x, %d) is %d, not %d", x.seed, x.stream, x.n, most, got, want)
			}
		}
	}
}

// P10.2: Below is the upper 32 bits of the whole product, and is below.
func TestBelow(t *testing.T) {
	for _, q := range questions() {
		word := new(big.Int).SetUint64(uint64(q.told()))
		for _, most := range mosts() {
			product := new(big.Int).Mul(word, new(big.Int).SetUint64(uint64(most)))
			want := uint32(product.Rsh(product, 32).Uint64())
			got := Below(q.seed, q.stream, q.n, most)
			if got != want || most > 0 && got >= most {
				t.Fatalf("P10.2: Below(%#x, %#x, %#x, %d) is %d, not %d", q.seed, q.stream, q.n, most, got, want)
			}
		}
	}
}

// P10.2: Below reaches each of few numbers, the least and the greatest too.
func TestBelowReachesAll(t *testing.T) {
	for _, most := range []uint32{1, 2, 3, 7, 10, 64} {
		times := make([]int, most)
		for n := range uint64(4096) {
			times[Below(42, 3, n, most)]++
		}
		for v, often := range times {
			if often < 4096/int(most)/2 {
				t.Errorf("P10.2: Below of %d was %d just %d times of 4096", most, v, often)
			}
		}
	}
}

// P10.3: who knows the seed knows all: each word again, whatever was asked between, in any order, by many at once.
func TestSameAgain(t *testing.T) {
	l := questions()
	first := make([]uint32, len(l))
	for i, q := range l {
		first[i] = Word(q.seed, q.stream, q.n)
	}
	again := func() {
		for i := len(l) - 1; i >= 0; i-- {
			q := l[i]
			Uniform(Block([2]uint32{uint32(i), first[i]}, [4]uint32{first[i]})[0])
			if got, want := Below(q.seed, q.stream, q.n, ones), uint32(uint64(first[i])*ones>>32); got != want {
				t.Errorf("P10.3: Below(%#x, %#x, %#x) is %#x, and was %#x", q.seed, q.stream, q.n, got, want)
			}
			if got := Word(q.seed, q.stream, q.n); got != first[i] {
				t.Errorf("P10.3: Word(%#x, %#x, %#x) is %#x, and was %#x", q.seed, q.stream, q.n, got, first[i])
			}
		}
	}
	again()
	var all sync.WaitGroup
	for range 8 {
		all.Go(again)
	}
	all.Wait()
}

// P10.3: by the seed alone, its words go on from anywhere as they do from the beginning.
func TestSeedTellsAll(t *testing.T) {
	const seed, stream = 0xdeadbeefcafef00d, 17
	key := [2]uint32{0xcafef00d, 0xdeadbeef}
	var row []uint32
	for at := range uint32(64) {
		block := reckoned(key, [4]uint32{at, 0, stream, 0})
		row = append(row, block[:]...)
	}
	for from := range row {
		for n := from; n < len(row); n++ {
			if got := Word(seed, stream, uint64(n)); got != row[n] {
				t.Fatalf("P10.3: Word %d from %d on is %#x, not %#x", n, from, got, row[n])
			}
		}
	}
}
