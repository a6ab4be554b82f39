package philox

import (
	"math"
	"math/big"
	mathbits "math/bits"
	"testing"
)

// ones is a word all of whose bits are set.
const ones = math.MaxUint32

// row is a block that is written out.
type row struct {
	key       [2]uint32
	ctr, want [4]uint32
}

// published are the blocks that the makers of Philox4x32-10 have published: of
// noughts, of all ones, of the digits of pi.
func published() []row {
	return []row{
		{[2]uint32{}, [4]uint32{}, [4]uint32{0x6627e8d5, 0xe169c58d, 0xbc57ac4c, 0x9b00dbd8}},
		{[2]uint32{ones, ones}, [4]uint32{ones, ones, ones, ones}, [4]uint32{0x408f276d, 0x41c83b0e, 0xa20bc7c6, 0x6d5451fd}},
		{[2]uint32{0xa4093822, 0x299f31d0}, [4]uint32{0x243f6a88, 0x85a308d3, 0x13198a2e, 0x03707344}, [4]uint32{0xd16cfe09, 0x94fdcceb, 0x5001e420, 0x24126ea1}},
	}
}

// edged are blocks of keys and counters at their ends, reckoned apart from this program.
func edged() []row {
	return []row{
		{[2]uint32{}, [4]uint32{ones, ones, ones, ones}, [4]uint32{0x3f9d0c45, 0x26f733a8, 0x4f9f3099, 0x22d2ed02}},
		{[2]uint32{ones, ones}, [4]uint32{}, [4]uint32{0x72a47709, 0x15474739, 0x9f41b01f, 0x22799a5a}},
		{[2]uint32{1, 0}, [4]uint32{}, [4]uint32{0xe3e80670, 0xe50a0ebc, 0x95f222c0, 0xb615aa27}},
		{[2]uint32{0, 1}, [4]uint32{}, [4]uint32{0xfdde3e0b, 0xfa7e58b6, 0x3380ec46, 0xd8d55c4f}},
		{[2]uint32{0x80000000, 0}, [4]uint32{}, [4]uint32{0x2aa832ec, 0x7f4c2477, 0x595bfe5f, 0xfa260e31}},
		{[2]uint32{0, 0x80000000}, [4]uint32{}, [4]uint32{0xa41c1be6, 0x817b6f73, 0x0263cf78, 0x5b08184a}},
		{[2]uint32{}, [4]uint32{1, 0, 0, 0}, [4]uint32{0xf8e4cca4, 0x5cb200db, 0xb1a574eb, 0x097eff67}},
		{[2]uint32{}, [4]uint32{0, 1, 0, 0}, [4]uint32{0x6ad0c5ec, 0xea236249, 0x73a459f5, 0x074944b3}},
		{[2]uint32{}, [4]uint32{0, 0, 1, 0}, [4]uint32{0x844515e1, 0xf08d6eaa, 0x0f19c053, 0x83f875f0}},
		{[2]uint32{}, [4]uint32{0, 0, 0, 1}, [4]uint32{0x2dce73e5, 0x1348e23f, 0xfcf8e0ec, 0xa287aadb}},
	}
}

// chain is numbers without a pattern, the same in each run.
type chain uint64

// next tells one more of them.
func (c *chain) next() uint64 {
	*c ^= *c << 13
	*c ^= *c >> 7
	*c ^= *c << 17
	return uint64(*c)
}

// word tells one of them, each fourth time one with few bits or with most.
func (c *chain) word() uint32 {
	v := c.next()
	w := uint32(v >> 32)
	switch v & 7 {
	case 0:
		return w >> (v >> 3 & 31)
	case 1:
		return ^(w >> (v >> 3 & 31))
	default:
		return w
	}
}

// key tells a key of them.
func (c *chain) key() [2]uint32 { return [2]uint32{c.word(), c.word()} }

// ctr tells a counter of them.
func (c *chain) ctr() [4]uint32 { return [4]uint32{c.word(), c.word(), c.word(), c.word()} }

// reckoned is Philox4x32-10 with the key of each round by the round's number.
func reckoned(key [2]uint32, ctr [4]uint32) [4]uint32 {
	a, b, c, d := ctr[0], ctr[1], ctr[2], ctr[3]
	for at := range uint32(10) {
		pHigh, pLow := mathbits.Mul32(a, 0xd2511f53)
		qHigh, qLow := mathbits.Mul32(c, 0xcd9e8d57)
		a, b, c, d = qHigh^b^(key[0]+at*0x9e3779b9), qLow, pHigh^d^(key[1]+at*0xbb67ae85), pLow
	}
	return [4]uint32{a, b, c, d}
}

// inverse tells by what a product by v is made back, round 2^32.
func inverse(t *testing.T, v int64) uint32 {
	t.Helper()
	back := new(big.Int).ModInverse(big.NewInt(v), big.NewInt(1<<32))
	if back == nil {
		t.Fatalf("%d has no inverse", v)
	}
	return uint32(back.Uint64())
}

// undone tells of which counter a block was made: its rounds backwards.
func undone(t *testing.T, key [2]uint32, block [4]uint32) [4]uint32 {
	t.Helper()
	firstBack, thirdBack := inverse(t, 0xd2511f53), inverse(t, 0xcd9e8d57)
	for at := 9; at >= 0; at-- {
		first, third := block[3]*firstBack, block[1]*thirdBack
		pHigh, _ := mathbits.Mul32(first, 0xd2511f53)
		qHigh, _ := mathbits.Mul32(third, 0xcd9e8d57)
		second := block[0] ^ qHigh ^ (key[0] + uint32(at)*0x9e3779b9)
		fourth := block[2] ^ pHigh ^ (key[1] + uint32(at)*0xbb67ae85)
		block = [4]uint32{first, second, third, fourth}
	}
	return block
}

// P10.1: the published blocks, and others at the edges.
func TestBlockWrittenOut(t *testing.T) {
	for _, x := range append(published(), edged()...) {
		if got := Block(x.key, x.ctr); got != x.want {
			t.Errorf("P10.1: Block(%08x, %08x) is %08x, not %08x", x.key, x.ctr, got, x.want)
		}
		if got := reckoned(x.key, x.ctr); got != x.want {
			t.Errorf("the test's own block of %08x, %08x is %08x, not %08x", x.key, x.ctr, got, x.want)
		}
	}
}

// P10.1: each bit of the key and of the counter alone, set among noughts and unset among ones.
func TestBlockOfEachBit(t *testing.T) {
	for at := range 6 * 32 {
		for _, from := range []uint32{0, ones} {
			key, ctr := [2]uint32{from, from}, [4]uint32{from, from, from, from}
			if at < 64 {
				key[at/32] ^= 1 << (at % 32)
			} else {
				ctr[at/32-2] ^= 1 << (at % 32)
			}
			if got, want := Block(key, ctr), reckoned(key, ctr); got != want {
				t.Errorf("P10.1: Block(%08x, %08x) is %08x, not %08x", key, ctr, got, want)
			}
		}
	}
}

// P10.1: keys and counters without a pattern, forwards and made back again.
func TestBlockWithoutPattern(t *testing.T) {
	c := chain(0x9e3779b97f4a7c15)
	for range 20000 {
		key, ctr := c.key(), c.ctr()
		got := Block(key, ctr)
		if want := reckoned(key, ctr); got != want {
			t.Fatalf("P10.1: Block(%08x, %08x) is %08x, not %08x", key, ctr, got, want)
		}
		if back := undone(t, key, got); back != ctr {
			t.Fatalf("P10.1: Block(%08x, %08x) is %08x, which is of %08x", key, ctr, got, back)
		}
	}
}

// P10.1: the key goes round 2^32, each word by itself.
func TestBlockKeyGoesRound(t *testing.T) {
	for at := range uint32(10) {
		for _, off := range []uint32{0, 1, ones} {
			for _, key := range [][2]uint32{{off - at*0x9e3779b9, 5}, {5, off - at*0xbb67ae85}} {
				ctr := [4]uint32{at, 2, off, 3}
				if got, want := Block(key, ctr), reckoned(key, ctr); got != want {
					t.Errorf("P10.1: Block(%08x, %08x) is %08x, not %08x", key, ctr, got, want)
				}
			}
		}
	}
}

// P10.1: what is handed in stays, and what is answered is the caller's own.
func TestBlockLeavesWhatIsHandedIn(t *testing.T) {
	for _, x := range append(published(), edged()...) {
		key, ctr := x.key, x.ctr
		got := Block(key, ctr)
		if key != x.key || ctr != x.ctr {
			t.Fatalf("P10.1: Block(%08x, %08x) left %08x, %08x", x.key, x.ctr, key, ctr)
		}
		got[0], got[1], got[2], got[3] = 1, 2, 3, 4
		if again := Block(key, ctr); again != x.want || ctr != x.ctr {
			t.Fatalf("P10.1: Block(%08x, %08x) is %08x, not %08x, behind a write to what it told", x.key, x.ctr, again, x.want)
		}
	}
}
