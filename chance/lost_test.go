package chance

import (
	"math"
	"math/big"
	"sync"
	"testing"

	"anneal/conv"
)

// strata is of how many ranges of words each one tells a word.
const strata = 1 << 16

// spread are words of which one is in each range of as many behind one another, without a pattern there.
func spread() []uint32 {
	l := make([]uint32, strata)
	c := chain(0x6c62272e07bb0142)
	for i := range l {
		l[i] = uint32(i)<<16 | c.next()>>16
	}
	return l
}

// sixteenths are Singles that lie at whole 2^-16ths of a unit above a format's
// number: each range of spread makes wholly the one or wholly the other neighbour.
func sixteenths(w layout) []uint32 {
	l := []uint32{0x3f800001, 0x3f801000, 0x3f801fff, 0x40490fdb, 0x3fffffff, 0x3dcccccd, 0x42f6e979, 0x40000000, 0x461c4001}
	if w.f == half.f {
		return append(l, 0x387fe000, 0x387fc004, 0x33000000, 0x33200000, 0x32000000, 0x33a00000, 0x2b800000, 0x477fdfff)
	}
	return append(l, 1, 0x00008001, 0x0000ffff, 0x00010001, 0x007fffff, 0x00800001, 0x00ffffff, 0x7f7effff)
}

// P11.2: out of all words as many make the upper neighbour as a number is above
// the lower one; P11.1: these are the words below, and no others.
func TestShareOfWords(t *testing.T) {
	words := spread()
	for _, w := range narrow() {
		for _, a := range sixteenths(w) {
			lower, often := w.place(a)
			if often%strata != 0 {
				t.Fatalf("%s: %#x isn't at 2^-16ths", w.name, a)
			}
			for _, sign := range []uint32{0, single.sign} {
				ups := uint32(0)
				for _, at := range words {
					switch got := Narrow(w.f, sign|a, at); got {
					case w.signed(lower+1, sign):
						ups++
					case w.signed(lower, sign):
					default:
						t.Fatalf("P11.1: Narrow to %s of %#x by %#x is %#x, no neighbour", w.name, sign|a, at, got)
					}
				}
				if want := often / strata; ups != want {
					t.Errorf("P11.2: of %d words %d make the upper one of %s's neighbours of %#x, not %d", strata, ups, w.name, sign|a, want)
				}
			}
		}
	}
}

// P11.2: all that a number becomes, by words from all ranges, makes together as much as the number as often.
func TestMeanIsTheNumber(t *testing.T) {
	words := spread()
	for _, w := range narrow() {
		for _, a := range sixteenths(w) {
			all := new(big.Int)
			for _, at := range words {
				all.Add(all, w.number(Narrow(w.f, a, at)))
			}
			want := single.number(a)
			if want.Mul(want, big.NewInt(strata)); all.Cmp(want) != 0 {
				t.Errorf("P11.2: %#x in %s is on the whole %v, not %v", a, w.name, all, want)
			}
		}
	}
}

// P11.2: what is lost of any Single, out of all 2^32 words, is less than one word's unit.
func TestLittleIsLost(t *testing.T) {
	c := chain(0x14057b7ef767814f)
	for range 20000 {
		a := c.next() % 0x47800000
		for _, w := range narrow() {
			lower := Narrow(w.f, a, ones)
			low, unit := w.number(lower), new(big.Int)
			unit.Sub(w.number(lower+1), low)
			missing := new(big.Int).Sub(single.number(a), low)
			missing.Lsh(missing, 32)
			missing.Sub(missing, new(big.Int).Mul(unit, big.NewInt(ahead(w, a, lower))))
			if missing.Sign() < 0 || missing.Cmp(unit) >= 0 {
				t.Fatalf("P11.2: %#x in %s loses %v of a unit of %v times 2^32", a, w.name, missing, unit)
			}
		}
	}
}

// ahead finds by halving how many words there are ahead of those that make the lower neighbour.
func ahead(w layout, a, lower uint32) int64 {
	from, to := int64(0), int64(ones)
	for from < to {
		if at := (from + to) / 2; Narrow(w.f, a, uint32(at)) == lower {
			to = at
		} else {
			from = at + 1
		}
	}
	return from
}

// P11.2: steps that are too small for the nearest add up.
func TestSmallStepsAddUp(t *testing.T) {
	for _, x := range []struct {
		w         layout
		at, step  float32
		times     int
		low, high float32
	}{
		{half, 1, 1.0 / 8192, 4096, 1.45, 1.55},
		{half, -1, -1.0 / 8192, 4096, -1.55, -1.45},
		{half, 2, -1.0 / 8192, 4096, 1.45, 1.55},
		{brain, 1, 1.0 / 1024, 512, 1.4, 1.6},
		{brain, -2, 1.0 / 1024, 512, -1.6, -1.4},
	} {
		c := chain(0x853c49e6748fea9b)
		sum := x.at
		for range x.times {
			sum = math.Float32frombits(conv.Widen(x.w.f, Narrow(x.w.f, math.Float32bits(sum+x.step), c.next())))
		}
		if sum < x.low || sum > x.high {
			t.Errorf("P11.2: %v and %d times %v is %v in %s", x.at, x.times, x.step, sum, x.w.name)
		}
		if near := conv.Widen(x.w.f, conv.Narrow(x.w.f, math.Float32bits(x.at+x.step))); near != math.Float32bits(x.at) {
			t.Errorf("P11.2: %v is no step that the nearest in %s loses: %#x", x.step, x.w.name, near)
		}
	}
}

// P11.1, P11.2: by one word a greater number never becomes a lower one, and by a
// greater word one number never becomes a greater one.
func TestInOrder(t *testing.T) {
	c := chain(0xbf58476d1ce4e5b9)
	for range 100000 {
		a, at := c.next()%single.inf, c.next()
		b := min(a+c.next()>>(c.next()&31), single.inf)
		if a > b {
			continue // round 2^32
		}
		for _, w := range layouts()[:4] {
			if low, high := Narrow(w.f, a, at), Narrow(w.f, b, at); low > high {
				t.Fatalf("P11.1: by %#x %s's %#x of %#x is above %#x of %#x", at, w.name, low, a, high, b)
			}
			more := at | c.next()
			if low, high := Narrow(w.f, a, more), Narrow(w.f, a, at); low > high {
				t.Fatalf("P11.1: of %#x %s's %#x by %#x is above %#x by %#x", a, w.name, low, more, high, at)
			}
		}
	}
}

// P11.1: the same arguments tell the same again, whatever was asked between, in any order, by many at once; they stay.
func TestSameAgain(t *testing.T) {
	type asked struct {
		w     layout
		a, at uint32
	}
	var l []asked
	c := chain(0x94d049bb133111eb)
	for _, w := range layouts() {
		for _, a := range append(edges(), nans()...) {
			l = append(l, asked{w, a, c.next()}, asked{w, a | single.sign, c.next()})
		}
	}
	first := make([]uint32, len(l))
	for i, q := range l {
		first[i] = Narrow(q.w.f, q.a, q.at)
	}
	again := func() {
		for i := len(l) - 1; i >= 0; i-- {
			f, a, at := l[i].w.f, l[i].a, l[i].at
			if got := Narrow(f, a, at); got != first[i] {
				t.Errorf("P11.1: Narrow(%d, %#x, %#x) is %#x, and was %#x", f, a, at, got, first[i])
			}
			if f != l[i].w.f || a != l[i].a || at != l[i].at {
				t.Errorf("P11.1: Narrow(%d, %#x, %#x) left %d, %#x, %#x", l[i].w.f, l[i].a, l[i].at, f, a, at)
			}
		}
	}
	again()
	var all sync.WaitGroup
	for range 8 {
		all.Go(again)
	}
	all.Wait()
}
