package tensor

import (
	"math"
	"testing"

	"anneal/api"
	"anneal/chance"
	"anneal/conv"
	"anneal/philox"
)

// P13.2: rows that are written out, by the words of seed 0, stream 0, which are
// 0x6627e8d5, 0xe169c58d, 0xbc57ac4c, 0x9b00dbd8, 0xf8e4cca4, 0x5cb200db,
// 0xb1a574eb, 0x097eff67, 0x04faa329, 0x51c732a6, 0x241513ad, 0x459135e4.
func TestChanceRows(t *testing.T) {
	for _, x := range []struct {
		from, to layout
		l, want  []uint32
	}{
		{single, half,
			[]uint32{0x3f801800, 0xbf801800, 0x3f801800, 0x3f801fff, 0x40490fdb, 0x477ff000, 0xc77ff000, 0x33000000, 0xb3000000, 0x7f800001, 0x80000000, 0x3fffffff},
			[]uint32{0x3c01, 0xbc00, 0x3c01, 0x3c01, 0x4248, 0x7c00, 0xfbff, 0x0001, 0x8001, 0x7e00, 0x8000, 0x4000}},
		{single, brain,
			[]uint32{0x3f80c000, 0xbf80c000, 0x3f80c000, 0x3f80c000, 0x40490fdb, 0x477fffff, 0xff800000, 0x330009ff, 0xb30004fa, 0x7f800001, 0x80000000, 0x00004600},
			[]uint32{0x3f81, 0xbf80, 0x3f81, 0x3f81, 0x4049, 0x4780, 0xff80, 0x3301, 0xb300, 0x7fc0, 0x8000, 0x0001}},
		{half, brain,
			[]uint32{0x3c04, 0xbc04, 0x3555, 0x7bff, 0xfbff, 0x0203, 0x7c01, 0x8000},
			[]uint32{0x3f81, 0xbf80, 0x3eaa, 0x4780, 0xc77f, 0x3801, 0x7fc0, 0x8000}},
		{brain, half,
			[]uint32{0x3f81, 0x4780, 0x3301, 0xb340, 0x33c0, 0x0001, 0xff80, 0xffbf},
			[]uint32{0x3c08, 0x7c00, 0x0000, 0x8001, 0x0001, 0x0000, 0xfc00, 0x7e00}},
	} {
		for _, s := range []shape{{1, len(x.l)}, {len(x.l), 1}, {len(x.l) / 4, 4}, {2, len(x.l) / 2}} {
			y, e := Chance(of(s.rows, s.cols, x.from.f, x.l...), x.to.f, 0, 0)
			holdTensor(t, "P13.2: Chance of "+x.from.name+" to "+x.to.name, y, e, of(s.rows, s.cols, x.to.f, x.want...), api.OK)
		}
	}
}

// P13.2: numbers from each format to each one: widened, then narrowed by the word of
// their place in V, whatever the shape, the seed, the stream.
func TestChanceIsNarrow(t *testing.T) {
	for _, o := range []struct {
		seed   uint64
		stream uint32
	}{{0, 0}, {1, 0}, {0, 1}, {1 << 32, 0}, {math.MaxUint64, math.MaxUint32}, {0x0123456789abcdef, 0xfedcba98}} {
		for _, s := range []shape{{48, 40}, {1, 1920}, {1920, 1}, {3, 7}, {1, 1}} {
			for _, from := range layouts() {
				x := from.mixed(s.rows, s.cols)
				for _, to := range layouts() {
					want := of(s.rows, s.cols, to.f)
					for i, v := range x.V {
						word := philox.Word(o.seed, o.stream, uint64(i))
						want.V = append(want.V, chance.Narrow(to.f, conv.Widen(from.f, v), word))
					}
					y, e := Chance(x, to.f, o.seed, o.stream)
					holdTensor(t, "P13.2: Chance of "+from.name+" to "+to.name, y, e, want, api.OK)
				}
			}
		}
	}
}

// digest is one word of all of a tensor's numbers, in their order.
func digest(x api.Tensor) uint64 {
	so := uint64(0xcbf29ce484222325)
	for _, v := range x.V {
		so = (so ^ uint64(v)) * 0x100000001b3
	}
	return so
}

// P13.2: many numbers from each format to each one are as they were reckoned elsewhere, by another program in another language.
func TestSameEverywhere(t *testing.T) {
	for _, x := range []struct {
		from, to     layout
		near, chance uint64
	}{
		{half, half, 0x88443bfc03c04103, 0x88443bfc03c04103},
		{half, brain, 0xf907c51261d8ce9b, 0x438fcdecce5bf599},
		{half, single, 0xb907887866ebf925, 0xb907887866ebf925},
		{brain, half, 0xfbb0fcc0e24b8efc, 0x9567e8182043ccd5},
		{brain, brain, 0x27d93279aaabd1fa, 0x27d93279aaabd1fa},
		{brain, single, 0xf0a499ebf2def925, 0xf0a499ebf2def925},
		{single, half, 0x00c5bd03646161e4, 0xf31879b3e4ad714e},
		{single, brain, 0xc309d04c46ab5c4a, 0x670edfa868ffa100},
		{single, single, 0x4ef2f9e01447cdb4, 0x4ef2f9e01447cdb4},
	} {
		many := x.from.mixed(48, 40)
		if y, e := Cast(many, x.to.f); digest(y) != x.near || e != api.OK {
			t.Errorf("P13.2: Cast of %s to %s makes %#x, error %d, not %#x", x.from.name, x.to.name, digest(y), e, x.near)
		}
		if y, e := Chance(many, x.to.f, 0x0123456789abcdef, 0xfedcba98); digest(y) != x.chance || e != api.OK {
			t.Errorf("P13.2: Chance of %s to %s makes %#x, error %d, not %#x", x.from.name, x.to.name, digest(y), e, x.chance)
		}
	}
}

// P13.2: the same number at each place: of many, as many are the upper one as it is above the lower one.
func TestChanceOnTheWhole(t *testing.T) {
	for _, x := range []struct {
		to    layout
		a     uint32
		lower uint32
		share float64
	}{{half, 0x3f800800, 0x3c00, 0.25}, {half, 0xbf801800, 0xbc00, 0.75}, {brain, 0x3f808000, 0x3f80, 0.5}, {brain, 0xbf802000, 0xbf80, 0.125}} {
		l := make([]uint32, 128*128)
		for i := range l {
			l[i] = x.a
		}
		y, e := Chance(of(128, 128, api.Single, l...), x.to.f, 42, 7)
		ups := 0
		for _, v := range y.V {
			switch v {
			case x.lower:
			case x.lower + 1:
				ups++
			default:
				t.Fatalf("P13.2: Chance of %#x to %s is %#x", x.a, x.to.name, v)
			}
		}
		if got := float64(ups) / float64(len(l)); e != api.OK || math.Abs(got-x.share) > 0.02 {
			t.Errorf("P13.2: Chance of %#x to %s: %v are the upper one, error %d", x.a, x.to.name, got, e)
		}
	}
}

// P13.2: each bit of the seed and of the stream counts.
func TestChanceHangsOnAll(t *testing.T) {
	l := make([]uint32, 256)
	for i := range l {
		l[i] = 0x3f801000
	}
	x := of(16, 16, api.Single, l...)
	base, _ := Chance(x, api.Half, 5, 6)
	for bit := range 64 {
		if y, e := Chance(x, api.Half, 5^1<<bit, 6); e != api.OK || alike(y, base) {
			t.Errorf("P13.2: Chance doesn't see the seed's bit %d, error %d", bit, e)
		}
	}
	for bit := range 32 {
		if y, e := Chance(x, api.Half, 5, 6^1<<bit); e != api.OK || alike(y, base) {
			t.Errorf("P13.2: Chance doesn't see the stream's bit %d, error %d", bit, e)
		}
	}
}

// P13.2: a number that is one of the other format's stays it by each word, and so does each number in its own format.
func TestChanceOfTheFormatsNumbers(t *testing.T) {
	for _, w := range layouts() {
		x := w.mixed(48, 40)
		near, _ := Cast(x, w.f)
		for seed := range uint64(5) {
			y, e := Chance(x, w.f, seed, 9)
			holdTensor(t, "P13.2: Chance in the same format", y, e, near, api.OK)
		}
		wide, _ := Cast(x, api.Single)
		y, e := Chance(wide, w.f, 1, 2)
		holdTensor(t, "P13.2: Chance there and back", y, e, near, api.OK)
	}
}
