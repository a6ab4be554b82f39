package bits

import (
	"math"
	"math/big"
	mathbits "math/bits"
	"testing"
)

// samples are numbers of each length with few, some and all bits set, and
// numbers without a pattern that are the same in each run.
func samples() []uint64 {
	l := []uint64{0, 0x0123456789abcdef, 0xfedcba9876543210, 0xaaaaaaaaaaaaaaaa, 0x5555555555555555}
	for n := range 64 {
		one := uint64(1) << n
		l = append(l, one, one-1, one+1, one|1<<63, ^one)
	}
	v := uint64(0x9e3779b97f4a7c15)
	for range 200 {
		v ^= v << 13
		v ^= v >> 7
		v ^= v << 17
		l = append(l, v, v>>(v&63))
	}
	return l
}

// counts are numbers of bits around every edge, and the two ends of int.
func counts() []int {
	l := []int{math.MinInt, math.MinInt + 1, math.MinInt32, -1 << 40, -129, math.MaxInt, math.MaxInt - 1, math.MaxInt32, 1 << 40, 1<<32 + 1, 129}
	for n := -70; n <= 70; n++ {
		l = append(l, n)
	}
	return l
}

// P1.1: Len counts the bits from the highest one down.
func TestLen(t *testing.T) {
	for v, want := range map[uint64]int{0: 0, 1: 1, 2: 2, 3: 2, 4: 3, 255: 8, 256: 9, math.MaxUint32: 32, 1 << 32: 33, 1<<63 - 1: 63, 1 << 63: 64, math.MaxUint64: 64} {
		if got := Len(v); got != want {
			t.Errorf("P1.1: Len(%#x) is %d, not %d", v, got, want)
		}
	}
	for _, v := range samples() {
		if got, want := Len(v), mathbits.Len64(v); got != want {
			t.Errorf("P1.1: Len(%#x) is %d, not %d", v, got, want)
		}
	}
}

// P1.1: Shift at the edges that the document names.
func TestShiftAtEdges(t *testing.T) {
	for _, x := range []struct {
		v    uint64
		n    int
		want uint64
		out  bool
	}{
		{5, 1, 2, true},
		{4, 1, 2, false},
		{5, 0, 5, false},
		{math.MaxUint64, 0, math.MaxUint64, false},
		{5, -1, 10, false},
		{1 << 63, -1, 0, true},
		{3 << 62, -1, 1 << 63, true},
		{1, -63, 1 << 63, false},
		{2, -63, 0, true},
		{1, -64, 0, true},
		{1 << 63, 63, 1, false},
		{1<<63 | 1, 63, 1, true},
		{1 << 62, 63, 0, true},
		{1 << 63, 64, 0, true},
		{1, 65, 0, true},
		{1, math.MaxInt, 0, true},
		{1, math.MinInt, 0, true},
		{0, 64, 0, false},
		{0, -64, 0, false},
		{0, math.MaxInt, 0, false},
		{0, math.MinInt, 0, false},
	} {
		if got, out := Shift(x.v, x.n); got != x.want || out != x.out {
			t.Errorf("P1.1: Shift(%#x, %d) is %#x, %v, not %#x, %v", x.v, x.n, got, out, x.want, x.out)
		}
	}
}

// P1.1, P1.3: Shift is the move of the endless row of bits, and what goes out is told.
func TestShiftTellsWhatGoesOut(t *testing.T) {
	for _, v := range samples() {
		for _, n := range counts() {
			got, out := Shift(v, n)
			want, lost := moved(v, n)
			if got != want || out != lost {
				t.Fatalf("P1.3: Shift(%#x, %d) is %#x, %v, not %#x, %v", v, n, got, out, want, lost)
			}
			if n > -64 && n < 64 {
				if back, _ := Shift(got, -n); (back == v) == out {
					t.Fatalf("P1.3: Shift(%#x, %d) told %v, and back is %#x", v, n, out, back)
				}
			}
		}
	}
}

// moved puts each one of v at its new place, one by one.
func moved(v uint64, n int) (uint64, bool) {
	if n < -64 {
		n = -64
	}
	if n > 64 {
		n = 64
	}
	var to uint64
	out := false
	for at := range 64 {
		if v&(1<<at) == 0 {
			continue
		}
		if at-n < 0 || at-n > 63 {
			out = true
			continue
		}
		to |= 1 << (at - n)
	}
	return to, out
}

// P1.1: Cut keeps the lowest bits, none below 1, all above 63.
func TestCut(t *testing.T) {
	for _, x := range []struct {
		v    uint64
		n    int
		want uint64
	}{
		{math.MaxUint64, 0, 0},
		{math.MaxUint64, -1, 0},
		{math.MaxUint64, -64, 0},
		{math.MaxUint64, math.MinInt, 0},
		{math.MaxUint64, 1, 1},
		{math.MaxUint64, 32, math.MaxUint32},
		{math.MaxUint64, 63, math.MaxInt64},
		{math.MaxUint64, 64, math.MaxUint64},
		{math.MaxUint64, 65, math.MaxUint64},
		{math.MaxUint64, math.MaxInt, math.MaxUint64},
		{0xabcd, 8, 0xcd},
		{0xabcd, 12, 0xbcd},
		{0, 63, 0},
	} {
		if got := Cut(x.v, x.n); got != x.want {
			t.Errorf("P1.1: Cut(%#x, %d) is %#x, not %#x", x.v, x.n, got, x.want)
		}
	}
	for _, v := range samples() {
		for n := 1; n < 64; n++ {
			if got, want := Cut(v, n), v%(1<<n); got != want {
				t.Fatalf("P1.1: Cut(%#x, %d) is %#x, not %#x", v, n, got, want)
			}
		}
	}
}

// P1.1: Signed reads the lowest bits as two's complement.
func TestSigned(t *testing.T) {
	for _, x := range []struct {
		v    uint64
		n    int
		want int64
	}{
		{math.MaxUint64, 0, 0},
		{math.MaxUint64, -1, 0},
		{math.MaxUint64, math.MinInt, 0},
		{1, 1, -1},
		{2, 1, 0},
		{0x80, 8, -128},
		{0x7f, 8, 127},
		{0xf7f, 8, 127},
		{0xff, 8, -1},
		{0xff, 9, 255},
		{1 << 62, 63, -1 << 62},
		{1 << 63, 63, 0},
		{1 << 63, 64, math.MinInt64},
		{1 << 63, 65, math.MinInt64},
		{math.MaxUint64, 64, -1},
		{math.MaxInt64, math.MaxInt, math.MaxInt64},
		{math.MaxUint64, math.MaxInt, -1},
	} {
		if got := Signed(x.v, x.n); got != x.want {
			t.Errorf("P1.1: Signed(%#x, %d) is %d, not %d", x.v, x.n, got, x.want)
		}
	}
	for _, v := range samples() {
		for n := 1; n <= 64; n++ {
			if got, want := Signed(v, n), complement(v, n); got != want {
				t.Fatalf("P1.1: Signed(%#x, %d) is %d, not %d", v, n, got, want)
			}
		}
	}
}

// complement weighs the lowest n bits one by one, the highest of them below nought.
func complement(v uint64, n int) int64 {
	sum := new(big.Int)
	for at := range n {
		if v&(1<<at) == 0 {
			continue
		}
		weight := new(big.Int).Lsh(big.NewInt(1), uint(at))
		if at == n-1 {
			weight.Neg(weight)
		}
		sum.Add(sum, weight)
	}
	return sum.Int64()
}

// P1.2: Rotate turns to the left, below 0 to the right, and no bit is lost.
func TestRotate(t *testing.T) {
	for n, want := range map[int]uint32{0: 0x12345678, 4: 0x23456781, 8: 0x34567812, 16: 0x56781234, 28: 0x81234567, 31: 0x091a2b3c, 32: 0x12345678, 36: 0x23456781, 64: 0x12345678, -4: 0x81234567, -8: 0x78123456, -31: 0x2468acf0, -32: 0x12345678, -36: 0x81234567, math.MaxInt: 0x091a2b3c, math.MinInt: 0x12345678} {
		if got := Rotate(0x12345678, n); got != want {
			t.Errorf("P1.2: Rotate by %d is %#x, not %#x", n, got, want)
		}
	}
	for _, v := range samples() {
		for _, n := range counts() {
			if got, want := Rotate(uint32(v), n), turned(uint32(v), n); got != want {
				t.Fatalf("P1.2: Rotate(%#x, %d) is %#x, not %#x", uint32(v), n, got, want)
			}
		}
	}
}

// turned turns by one place again and again.
func turned(v uint32, n int) uint32 {
	for range (n%32 + 32) % 32 {
		v = v*2 + v/(1<<31)
	}
	return v
}

// P1.2: Product has all 128 bits.
func TestProduct(t *testing.T) {
	for _, x := range []struct{ a, b, high, low uint64 }{
		{0, 0, 0, 0},
		{0, math.MaxUint64, 0, 0},
		{1, math.MaxUint64, 0, math.MaxUint64},
		{3, 5, 0, 15},
		{2, 1 << 63, 1, 0},
		{1 << 32, 1 << 32, 1, 0},
		{math.MaxUint32, math.MaxUint32, 0, 0xfffffffe00000001},
		{0x100000001, 0x100000001, 1, 0x200000001},
		{1<<63 - 1, 2, 0, math.MaxUint64 - 1},
		{math.MaxUint64, math.MaxUint64, math.MaxUint64 - 1, 1},
		{0xffffffff, 0xffffffffffffffff, 0xfffffffe, 0xffffffff00000001},
		{0xffffffff00000000, 0xffffffff, 0xfffffffe, 0x0000000100000000},
	} {
		if high, low := Product(x.a, x.b); high != x.high || low != x.low {
			t.Errorf("P1.2: Product(%#x, %#x) is %#x, %#x, not %#x, %#x", x.a, x.b, high, low, x.high, x.low)
		}
	}
	for _, a := range samples() {
		for _, b := range samples() {
			high, low := Product(a, b)
			wantHigh, wantLow := mathbits.Mul64(a, b)
			if high != wantHigh || low != wantLow {
				t.Fatalf("P1.2: Product(%#x, %#x) is %#x, %#x, not %#x, %#x", a, b, high, low, wantHigh, wantLow)
			}
		}
	}
}

// P1.2: Root at the least and the greatest numbers.
func TestRootAtEdges(t *testing.T) {
	for _, x := range []struct {
		v     uint64
		want  uint32
		whole bool
	}{
		{0, 0, true},
		{1, 1, true},
		{2, 1, false},
		{3, 1, false},
		{4, 2, true},
		{8, 2, false},
		{9, 3, true},
		{10, 3, false},
		{1<<62 - 1, 1<<31 - 1, false},
		{1 << 62, 1 << 31, true},
		{1 << 63, 3037000499, false},
		{math.MaxUint32*math.MaxUint32 - 1, math.MaxUint32 - 1, false},
		{math.MaxUint32 * math.MaxUint32, math.MaxUint32, true},
		{math.MaxUint32*math.MaxUint32 + 1, math.MaxUint32, false},
		{math.MaxUint64, math.MaxUint32, false},
	} {
		if got, whole := Root(x.v); got != x.want || whole != x.whole {
			t.Errorf("P1.2: Root(%d) is %d, %v, not %d, %v", x.v, got, whole, x.want, x.whole)
		}
	}
}

// P1.2: the root's square isn't above the number, the next one's is; every square is known.
func TestRoot(t *testing.T) {
	for _, v := range samples() {
		got, whole := Root(v)
		want := new(big.Int).Sqrt(new(big.Int).SetUint64(v)).Uint64()
		if uint64(got) != want || whole != (want*want == v) {
			t.Errorf("P1.2: Root(%d) is %d, %v, not %d", v, got, whole, want)
		}
		root := v >> 32
		square := root * root
		if got, whole := Root(square); uint64(got) != root || !whole {
			t.Errorf("P1.2: Root(%d) is %d, %v, not %d", square, got, whole, root)
		}
		if root < 1 {
			continue
		}
		if got, whole := Root(square + 1); uint64(got) != root || whole {
			t.Errorf("P1.2: Root(%d) is %d, %v, not %d", square+1, got, whole, root)
		}
		if got, whole := Root(square - 1); uint64(got) != root-1 || whole && root > 1 {
			t.Errorf("P1.2: Root(%d) is %d, %v, not %d", square-1, got, whole, root-1)
		}
	}
}
