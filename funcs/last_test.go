package funcs

import (
	"math"
	"testing"
)

// constant is one of a function's, and numbers of which its last bit, up and down, is told.
type constant struct {
	name    string
	bits    uint32
	numbers []uint32
}

// constants are all that the programs have of their own, but those whose last bit
// no number tells, up and down: see TestConstantsAsFarAsTold.
func constants() []constant {
	return []constant{
		{"Exp", 0x3fb8aa3b, []uint32{0x3eb17219, 0x3f851592, 0x401b43d4, 0x419e099d, 0x41e61ff6, 0xc20c0407}},
		{"Exp", 0x35bfbe8e, []uint32{0x40c798c2, 0x4147987d, 0x41a0cd19, 0x42024c40, 0x42024d18}},
		{"Exp", 0x3f317200, []uint32{0xc2bf2a00, 0xc2beeb0e, 0xc2bea08b, 0xc2bf0ca1}},
		{"Exp", 0x3ab60b61, []uint32{0x3e58ffe3, 0x3ea2e977, 0x3eb262f5, 0x3ec56128, 0x3ed4a942, 0x3f91d80f, 0xc018c5f3}},
		{"Exp", 0x3c088889, []uint32{0x3fd95b16, 0x3e52cfac, 0xbe12b33e, 0xbf80f424, 0xc16d3ade, 0x3e0adbf9, 0xc0a6c552}},
		{"Exp", 0x3d2aaaab, []uint32{0xc24e76b4, 0xc008f6d1, 0xc18785a6, 0xc0ce8b92}},
		{"Exp", 0x3e2aaaab, []uint32{0xc2a9e6b8, 0xc29ee661, 0xc27da43f, 0xc29ecb0b}},
		{"Exp", half, []uint32{0xc2ae918e, 0xc2af1811, 0xc29fb5ee, 0xc29ecb0b}},
		{"Exp", one, nil},
		{"Log", 0x3e924925, []uint32{0x000b2662, 0x06b26620, 0x3a37ada1, 0x3cae4d37, 0x3e27eb71, 0x3fa7eb71, 0x1ba7eb71}},
		{"Log", 0x3ecccccd, []uint32{0x3f2b1b0a, 0x401f634d, 0x005d9fbf, 0x3f3e938d, 0x44a59e29, 0x0066e5e7}},
		{"Log", 0x3f2aaaab, []uint32{0x7bc6a669, 0x71bd57de, 0x7aaf6f87, 0x6acd7164}},
		{"Log", 0x3f317200, nil},
		{"Log", 0x35bfbe8e, []uint32{0x001ffa48, 0x003fb436, 0x02800f97, 0x0000b56a, 0x0000bc7d, 0x07fb4b5a}},
		{"Gelu", 0x3f4c422a, []uint32{0xc03ff2f9, 0xc06a6559, 0xc06c6963, 0xc04faaa0}},
		{"Gelu", 0x3d372713, []uint32{0xc03fc837, 0xc05d1ce9, 0xc06c6963, 0xc0697522}},
		{"Gelu", half, nil},
		{"Slope", 0x3f4c422a, nil},
		{"Slope", 0x3d372713, []uint32{0xc03fc837, 0xc05d1ce9, 0xc06c6963, 0xc04faaa0}},
		{"Slope", 0x3e095d4f, nil},
		{"Slope", half, nil},
		{"Slope", one, nil},
		{"Cospi", 0x40490fdb, nil},
		{"Cospi", half, nil},
		{"Cospi", 0xb9500d01, nil},
		{"Cospi", 0x3c088889, nil},
		{"Cospi", 0xbe2aaaab, nil},
		{"Cospi", one, nil},
	}
}

// P12.1, P12.2, P12.3: of each constant the last bit is the one that is written:
// by one more or less the answers would be others.
func TestLastBitsOfConstants(t *testing.T) {
	all := numbers()
	for _, c := range constants() {
		f := faceOf(c.name)
		for _, x := range c.numbers {
			f.hold(t, x, f.by(machine{}, x))
		}
		l := append(c.numbers, all...)
		for _, to := range []uint32{c.bits - 1, c.bits + 1} {
			if !f.tells(machine{c.bits, to}, l) {
				t.Errorf("%s: nothing tells %#08x of %s from %#08x", f.promise, c.bits, f.name, to)
			}
		}
	}
}

// P12.1, P12.2, P12.3: the constants that only greater steps are told of: at the
// limits of Exp and of Tanh the programs tell the same anyway, and so does Log's
// just above its own; and of Log's first of q little comes into the answer.
func TestConstantsAsFarAsTold(t *testing.T) {
	for _, c := range []struct {
		name        string
		bits, to, x uint32
	}{
		{"Exp", 0x42b17218, 0x42b17216, 0x42b17217},
		{"Exp", 0xc2cff1b5, 0xc2cff1b3, 0xc2cff1b4},
		{"Tanh", 0x41102cb4, 0x41102cb2, 0x41102cb3},
		{"Log", 0x3fb504f3, 0x3fb504f2, 0x3fb504f3},
		{"Log", 0x3fb504f3, 0x3fb504f2, 0x3f3504f3},
		{"Log", 0x3e638e39, 0x3e638e39 - 32, 0x3fae4d37},
		{"Log", 0x3e638e39, 0x3e638e39 - 32, 0x3cae4d37},
		{"Log", 0x3e638e39, 0x3e638e39 + 48, 0x3fa7eb71},
		{"Log", 0x3e638e39, 0x3e638e39 + 48, 0x3e27eb71},
	} {
		f := faceOf(c.name)
		f.hold(t, c.x, f.by(machine{}, c.x))
		if !f.tells(machine{c.bits, c.to}, []uint32{c.x}) {
			t.Errorf("%s: %#08x doesn't tell %#08x of %s from %#08x", f.promise, c.x, c.bits, f.name, c.to)
		}
	}
}

// tells says whether of one of the numbers the machine has another answer.
func (f face) tells(m machine, l []uint32) bool {
	for _, x := range l {
		if f.by(m, x) != f.ask(x) {
			return true
		}
	}
	return false
}

// P12.1: above and below Exp's limits there is nothing else, however far; just within them the program runs.
func TestExpBeyondItsLimits(t *testing.T) {
	f := faceOf("Exp")
	f.hold(t, 0x42b17217, 0x7f7fff84)
	for x := uint32(0x42b17219); x <= inf; x += 0xfff1 {
		f.hold(t, x, inf)
	}
	f.hold(t, 0xc2cff1b4, least)
	for x := uint32(0xc2cff1b6); x <= minus|inf; x += 0xfff1 {
		f.hold(t, x, 0)
	}
}

// P12.2: of what is below nought, of each size, Log is the plain NaN.
func TestLogBelowNought(t *testing.T) {
	f := faceOf("Log")
	for x := uint32(minus | least); x <= minus|inf; x += 0xfff1 {
		f.hold(t, x, nan)
	}
}

// P12.2: of whole powers of 2, subnormal ones too, nothing but k is left.
func TestLogOfPowers(t *testing.T) {
	f := faceOf("Log")
	for e := -149; e <= 127; e++ {
		x := math.Float32bits(float32(math.Ldexp(1, e)))
		k := float32(e)
		upper, lower := machine{}.at(0x3f317200), machine{}.at(0x35bfbe8e)
		f.hold(t, x, math.Float32bits(fused(k, upper, times(k, lower))))
	}
}

// P12.3: beyond its limit Tanh is 1 with x's sign, however far; ahead of it there is less.
func TestTanhBeyondItsLimit(t *testing.T) {
	f := faceOf("Tanh")
	f.hold(t, 0x41102cb3, one-1)
	f.hold(t, minus|0x41102cb3, minus|(one-1))
	for x := uint32(0x41102cb5); x <= inf; x += 0xfff1 {
		f.hold(t, x, one)
		f.hold(t, minus|x, minus|one)
	}
}

// P12.3: Tanh of a number with the other sign is its Tanh with the other sign, that of a nought as well.
func TestTanhOfEitherSign(t *testing.T) {
	for _, x := range numbers() {
		if x&^minus <= inf && Tanh(x^minus) != Tanh(x)^minus {
			t.Fatalf("P12.3: Tanh of %#08x is %#08x, and of %#08x %#08x", x, Tanh(x), x^minus, Tanh(x^minus))
		}
	}
}
