package prod

import (
	"math"
	"testing"

	"anneal/api"
	"anneal/sum"
)

// P5.2: the chapter's example, and what is like it in the other formats.
func TestFmaExample(t *testing.T) {
	for _, r := range []row{
		{w: single, a: 0x40000000, b: 0x40400000, c: 0x3f800000, want: same[uint32](0x40e00000)},
		{w: single, a: 0x40000000, b: 0xc0400000, c: 0x3f800000, want: same[uint32](0xc0a00000)},
		{w: half, a: 0x4000, b: 0x4200, c: 0x3c00, want: same[uint32](0x4700)},
		{w: brain, a: 0x4000, b: 0x4040, c: 0x3f80, want: same[uint32](0x40e0)},
	} {
		r.holdFma(t, "P5.2")
	}
}

// P5.2: a Quiet NaN at whichever place makes the plain one and nothing else,
// but where it stands beside a product that is none.
func TestFmaQuietNans(t *testing.T) {
	for _, w := range layouts() {
		quiets, _ := w.nans()
		all := append(w.numbers(), quiets...)
		for _, mode := range modes() {
			for _, q := range quiets {
				for _, v := range all {
					for _, u := range all {
						w.holdFma(t, "P5.2", mode, q, v, u, answer{v: w.quiet})
					}
				}
				for _, a := range w.finites() {
					for _, b := range w.numbers() {
						w.holdFma(t, "P5.2", mode, a, b, q, answer{v: w.quiet})
					}
				}
			}
		}
	}
}

// P5.2: a Signal NaN at whichever place is Invalid, beside whatever else.
func TestFmaSignalNans(t *testing.T) {
	for _, w := range layouts() {
		quiets, signals := w.nans()
		all := append(append(w.numbers(), quiets...), signals...)
		for _, mode := range modes() {
			for _, s := range signals {
				for _, v := range all {
					for _, u := range all {
						w.holdFma(t, "P5.2", mode, s, v, u, answer{w.quiet, invalid})
						w.holdFma(t, "P5.2", mode, v, u, s, answer{w.quiet, invalid})
					}
				}
			}
		}
	}
}

// P5.2: a nought times an infinity is Invalid, whatever the third one is, a Quiet NaN too.
func TestFmaNoughtTimesInfinity(t *testing.T) {
	for _, w := range layouts() {
		quiets, _ := w.nans()
		third := append(append(w.numbers(), quiets...), w.edges()...)
		for _, mode := range modes() {
			for _, nought := range w.noughts() {
				for _, i := range w.infinities() {
					for _, c := range third {
						w.holdFma(t, "P5.2", mode, nought, i, c, answer{w.quiet, invalid})
					}
				}
			}
		}
	}
}

// P5.2: an infinite product is the answer, beside an infinity of the other sign Invalid.
func TestFmaInfiniteProduct(t *testing.T) {
	for _, w := range layouts() {
		for _, mode := range modes() {
			for _, i := range w.infinities() {
				for _, v := range append(w.finites(), w.infinities()...) {
					product := w.inf | (i^v)&w.sign
					w.holdFma(t, "P5.2", mode, i, v, product, answer{v: product})
					w.holdFma(t, "P5.2", mode, i, v, product^w.sign, answer{w.quiet, invalid})
					for _, c := range w.some() {
						w.holdFma(t, "P5.2", mode, i, v, c, answer{v: product})
					}
				}
			}
		}
	}
}

// P5.2: an infinity beside a finite product is the answer, though the product
// is above the Greatest and has the other sign.
func TestFmaInfinityBesideAFiniteProduct(t *testing.T) {
	for _, w := range layouts() {
		l := w.some()
		for _, mode := range modes() {
			for _, i := range w.infinities() {
				for _, a := range l {
					for _, b := range l {
						w.holdFma(t, "P5.2", mode, a, b, i, answer{v: i})
					}
				}
			}
		}
	}
}

// P5.2: an exact nought of a product and one of the same sign keep it; of unlike
// signs they have none, but one in mode Down.
func TestFmaNoughts(t *testing.T) {
	for _, w := range layouts() {
		finite := append(append(w.noughts(), w.finites()...), w.some()...)
		for _, mode := range modes() {
			unlike := answer{}
			if mode == api.Down {
				unlike.v = w.sign
			}
			for _, nought := range w.noughts() {
				for _, v := range finite {
					sign := (nought ^ v) & w.sign
					w.holdFma(t, "P5.2", mode, nought, v, sign, answer{v: sign})
					w.holdFma(t, "P5.2", mode, nought, v, sign^w.sign, unlike)
				}
			}
		}
	}
}

// P5.2: a product and its opposite are nought without a sign, with one in mode Down.
func TestFmaSumsThatAreNought(t *testing.T) {
	for _, w := range layouts() {
		step := uint32(1) << w.frac
		for _, mode := range modes() {
			want := answer{}
			if mode == api.Down {
				want.v = w.sign
			}
			for _, v := range w.edges() {
				if v == 0 {
					continue
				}
				w.holdFma(t, "P5.2", mode, w.one, v, v|w.sign, want)
				w.holdFma(t, "P5.2", mode, w.sign|w.one, v, v, want)
				if v >= step && v < w.inf-step {
					w.holdFma(t, "P5.2", mode, w.one+step, v, w.sign|(v+step), want)
					w.holdFma(t, "P5.2", mode, w.one-step, v+step, w.sign|v, want)
				}
			}
		}
	}
}

// P5.2: a nought of a product leaves the third number as it is; a third one that
// is nought leaves the product as Mul rounds it, with its own sign even where that is nought.
func TestFmaANoughtAndANumber(t *testing.T) {
	for _, w := range layouts() {
		for _, mode := range modes() {
			for _, v := range w.edges() {
				if v == 0 {
					continue
				}
				for _, nought := range w.noughts() {
					w.holdFma(t, "P5.2", mode, nought, w.one, v, answer{v: v})
					w.holdFma(t, "P5.2", mode, nought, w.inf-1, v|w.sign, answer{v: v | w.sign})
					for _, u := range w.finites() {
						w.holdFma(t, "P5.2", mode, v, u, nought, mul(w.f, mode, v, u))
					}
				}
			}
		}
	}
}

// P5.2: with one at a product's place Fma is the sum of the two others.
func TestFmaByOneIsTheSum(t *testing.T) {
	for _, w := range layouts() {
		l := append(append(w.some(), w.infinities()...), w.without(30)...)
		for _, mode := range modes() {
			for _, b := range l {
				for _, c := range l {
					v, x := sum.Add(w.f, mode, b, c)
					w.holdFma(t, "P5.2", mode, w.one, b, c, answer{v, x})
				}
			}
		}
	}
}

// P5.2, P5.3: numbers where something happens, each with each.
func TestFmaEachWithEach(t *testing.T) {
	for _, w := range layouts() {
		l := w.some()
		for k, a := range l {
			for _, b := range l[:k+1] {
				for _, c := range l {
					w.holdTogether(t, "P5.2", a, b, c)
				}
			}
		}
	}
}

// P5.2, P5.3: each finite Half and Brain number at each place.
func TestFmaEveryNumberOfSixteenBits(t *testing.T) {
	for _, w := range []layout{half, brain} {
		for v := range w.inf {
			w.holdTogether(t, "P5.2", w.one+1, w.one/2+1, v)
			w.holdTogether(t, "P5.2", w.one+1, v, w.sign|(w.one+1))
			w.holdTogether(t, "P5.2", v, v, w.sign|v)
		}
	}
}

// P5.2, P5.3: products without a pattern, and a third number at each distance from them.
func TestFmaAtEachDistance(t *testing.T) {
	for _, w := range layouts() {
		step := uint32(1) << w.frac
		l := w.without(60)
		for k, a := range l {
			b := l[(k+1)%len(l)]
			for from := uint32(0); from < w.inf; from += step {
				c := from | l[(k+2)%len(l)]&(step-1)
				w.holdTogether(t, "P5.2", a, b, c)
				w.holdTogether(t, "P5.2", a, b, c|w.sign)
			}
		}
	}
}

// P5.2, P5.3: a third number that takes away what a product rounds to, or nearly
// so: what is left is the product's lower half, which no rounding has cut.
func TestFmaNearlyNought(t *testing.T) {
	for _, w := range layouts() {
		l := append(w.without(400), w.some()...)
		for k, a := range l {
			for _, b := range []uint32{l[(k+1)%len(l)], l[(k+7)%len(l)], a, w.one + 1, w.one - 2} {
				near, _ := Mul(w.f, api.ToZero, a, b)
				for _, c := range []uint32{near - 1, near, near + 1, near + 2} {
					if c&w.inf != w.inf {
						w.holdTogether(t, "P5.2", a, b, c&w.mask^w.sign)
					}
				}
			}
		}
	}
}

// P5.2: Singles whose product and sum a double holds whole are the machine's own.
func TestFmaAgainstTheMachine(t *testing.T) {
	asked := 0
	l := single.without(130)
	for _, a := range l {
		for _, b := range l {
			for _, c := range l[:20] {
				x := float64(math.Float32frombits(a)) * float64(math.Float32frombits(b))
				y := float64(math.Float32frombits(c))
				whole := x + y
				if whole == 0 || whole-x != y || whole-y != x {
					continue
				}
				asked++
				if got, _ := Fma(api.Single, api.NearEven, a, b, c); got != math.Float32bits(float32(whole)) {
					t.Fatalf("P5.2: of %#x, %#x, %#x there is %#x, not %#x", a, b, c, got, math.Float32bits(float32(whole)))
				}
			}
		}
	}
	if asked < 1000 {
		t.Fatalf("P5.2: only %d were asked for", asked)
	}
}
