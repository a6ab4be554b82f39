package funcs

import (
	"sync"
	"testing"
)

// stride is how far apart the numbers are of which all answers are in a digest.
const stride = 9973

// digest is one word of all that a function tells of every stride-th number there is, in order.
func (f face) digest() uint64 {
	so := uint64(0xcbf29ce484222325)
	for x := uint64(0); x < 1<<32; x += stride {
		so = (so ^ uint64(f.ask(uint32(x)))) * 0x100000001b3
	}
	return so
}

// P12.4: over all numbers there are the answers are the same everywhere: as they
// were reckoned elsewhere, by another program in another language.
func TestSameEverywhere(t *testing.T) {
	for _, d := range []struct {
		name string
		want uint64
	}{
		{"Exp", 0xbedb15fd8fb3b418},
		{"Log", 0x22cf6c655b934842},
		{"Tanh", 0xab993d186079c042},
		{"Sigmoid", 0x5f88af9fc51ad8d7},
		{"Gelu", 0x9f6872e251f1cd78},
		{"Slope", 0xaba40f459e9ffd2f},
		{"Cospi", 0x19d01853e7029c8b},
	} {
		t.Run(d.name, func(t *testing.T) {
			t.Parallel()
			if got := faceOf(d.name).digest(); got != d.want {
				t.Errorf("P12.4: the answers of %s make %#x together, not %#x", d.name, got, d.want)
			}
		})
	}
}

// P12.4: the same numbers tell the same again, whatever was asked between, in any order, by many at once.
func TestSameAgain(t *testing.T) {
	l := numbers()
	var first [][]uint32
	for _, f := range faces() {
		told := make([]uint32, len(l))
		for i, x := range l {
			told[i] = f.ask(x)
		}
		first = append(first, told)
	}
	again := func() {
		for i := len(l) - 1; i >= 0; i-- {
			for k, f := range faces() {
				if got := f.ask(l[i]); got != first[k][i] {
					t.Errorf("P12.4: %s of %#08x is %#08x, and was %#08x", f.name, l[i], got, first[k][i])
					return
				}
			}
		}
	}
	var all sync.WaitGroup
	for range 4 {
		all.Go(again)
	}
	all.Wait()
}

// P12.4: a NaN that comes of a program is the plain one, as of each number that is asked.
func TestNoOtherNan(t *testing.T) {
	for _, f := range faces() {
		for _, x := range numbers() {
			if v := f.ask(x); v&^minus > inf && v != nan {
				t.Fatalf("P12.4: %s of %#08x is %#08x", f.name, x, v)
			}
		}
	}
}
