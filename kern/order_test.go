package kern

import (
	"slices"
	"sync"
	"testing"

	"anneal/api"
)

// ordered is numbers in an order, and their sum in it, one by one; in other orders there are other sums.
type ordered struct{ l, want []uint32 }

// orders are some that are written out; at 2^24 a step is 2, so that a 1 alone is lost there.
func orders() []ordered {
	const big = 16777216
	return []ordered{
		{singles(big, 1, 1), singles(big)},
		{singles(1, 1, big), singles(big + 2)},
		{singles(1, big, 1), singles(big)},
		{singles(big, 1, 1, 1), singles(big)}, // by twos it is 2 more
		{singles(1, 1, 1, big), []uint32{0x4b800002}},
		{singles(big, 1, 1, -big), singles(0)},
		{singles(1, big, 1, -big), singles(0)},
		{singles(1, big, -big, 1), singles(1)},
		{singles(1, 1, big, -big), singles(2)},
		{singles(big, -big, 1, 1), singles(2)},
		{singles(-big, 1, 1, big), singles(2)},
		{singles(big, 1, -big, 1), singles(1)},
		{singles(big, 1, 1, 1, -big, 1, 1, 1), singles(3)}, // by fours it is 6
		{singles(1, 1, 1, -big, 1, 1, 1, big), singles(6)},
		{singles(0.1, 0.2, 0.4), []uint32{0x3f333334}},
		{singles(0.1, 0.4, 0.2), []uint32{0x3f333333}},
		{singles(0.2, 0.4, 0.1), []uint32{0x3f333334}},
		{singles(0.4, 0.1, 0.2), []uint32{0x3f333333}},
		{singles(0.4, 0.3, 0.1), []uint32{0x3f4cccce}},
		{singles(0.1, 0.3, 0.4), []uint32{0x3f4ccccd}},
		{singles(1e10, 3.14159, -1e10), singles(0)},
		{singles(1e10, -1e10, 3.14159), singles(3.14159)},
		{singles(3e38, 3e38, -3e38), []uint32{0x7f800000}},
		{singles(3e38, -3e38, 3e38), singles(3e38)},
	}
}

// ones are n of 1.0.
func ones(n int) []uint32 { return slices.Repeat([]uint32{0x3f800000}, n) }

// P14.3: numbers whose sum in another order has other bits: each call sums them in the document's one.
func TestOrder(t *testing.T) {
	for _, x := range orders() {
		n := len(x.l)
		for _, k := range [][2][]uint32{{x.l, ones(n)}, {ones(n), x.l}} {
			if v, e := Dot(k[0], k[1]); v != x.want[0] || e != api.OK {
				t.Errorf("P14.3: Dot of %#x and %#x is %#x, error %d, not %#x", k[0], k[1], v, e, x.want)
			}
			holdProducts(t, "P14.3", of(1, n, api.Single, k[0]...), of(n, 1, api.Single, k[1]...), of(1, 1, api.Single, x.want...))
			many, want := of(3, n, api.Single, slices.Repeat(k[0], 3)...), of(3, 3, api.Single, slices.Repeat(x.want, 9)...)
			holdProducts(t, "P14.3", many, turned(of(3, n, api.Single, slices.Repeat(k[1], 3)...)), want)
		}
		got, e := Sums(of(n, 1, api.Single, x.l...))
		holdTensor(t, "P14.3: Sums", got, e, of(1, 1, api.Single, x.want...), api.OK)
		got, e = Sums(turned(of(3, n, api.Single, slices.Repeat(x.l, 3)...)))
		holdTensor(t, "P14.3: Sums of three", got, e, of(1, 3, api.Single, slices.Repeat(x.want, 3)...), api.OK)
	}
}

// P14.3: the order is seen: of many lists without a pattern most have other bits from
// their end on, and each order's bits are its own.
func TestOrderIsSeen(t *testing.T) {
	const many = 200
	seen := 0
	for seed := range uint64(many) {
		a, b := single.near(1, 50, seed+1), single.near(1, 50, seed+900)
		dotRow{a.V, b.V, dotted(a.V, b.V)}.holdDot(t)
		v, _ := Dot(a.V, b.V)
		slices.Reverse(a.V)
		slices.Reverse(b.V)
		dotRow{a.V, b.V, dotted(a.V, b.V)}.holdDot(t)
		if w, _ := Dot(a.V, b.V); v != w {
			seen++
		}
	}
	if seen < many/2 {
		t.Errorf("P14.3: %d of %d lists have other bits from their end on", seen, many)
	}
}

// P14.3: rows and columns that change places take their numbers along, and change no bit of them.
func TestPlacesDontCount(t *testing.T) {
	for _, v := range layouts() {
		a, b := v.near(6, 30, 3), single.near(30, 4, 4)
		got, _ := Plain(a, b)
		sums, _ := Sums(turned(a))
		for i := range 6 {
			row := of(1, 30, v.f, a.V[i*30:(i+1)*30]...)
			alone, e := Plain(row, b)
			holdTensor(t, "P14.3: a row alone", alone, e, of(1, 4, api.Single, got.V[i*4:(i+1)*4]...), api.OK)
			alone, e = Sums(turned(row))
			holdTensor(t, "P14.3: a column alone", alone, e, of(1, 1, api.Single, sums.V[i]), api.OK)
		}
		for j := range 4 {
			alone, e := Plain(a, of(30, 1, api.Single, turned(b).V[j*30:(j+1)*30]...))
			holdTensor(t, "P14.3: a column of b alone", turned(alone), e, of(1, 6, api.Single, turned(got).V[j*6:(j+1)*6]...), api.OK)
		}
	}
}

// digest is one word of tensors' numbers, in their order.
func digest(l ...api.Tensor) uint64 {
	so := uint64(0xcbf29ce484222325)
	for _, x := range l {
		for _, v := range x.V {
			so = (so ^ uint64(v)) * 0x100000001b3
		}
	}
	return so
}

// P14.3: numbers near 1.0, and of all kinds, are as they were reckoned elsewhere, by
// another program in another language, by fractions.
func TestSameEverywhere(t *testing.T) {
	for _, x := range []struct {
		v, w           layout
		products, rows uint64
	}{
		{half, half, 0xab44a4d64a4461b0, 0xdd4e874e991944fa},
		{half, brain, 0x6c866082e96cdfeb, 0x0f9730417c4fc9ae},
		{half, single, 0x0c0d1564108c7fd0, 0xbf6fe1085aca854f},
		{brain, half, 0xb0a4c7c6946a394b, 0xe21a97dcd7d165de},
		{brain, brain, 0x74c842ad793a1a91, 0x65f393608f615740},
		{brain, single, 0xcca5d57f1bbb8ecd, 0x65d2f46acb66fd25},
		{single, half, 0x179bb6c581fdf5f3, 0x744bfcc049e45a76},
		{single, brain, 0x89b917bf559bb67b, 0x061f8608fc1adcc6},
		{single, single, 0x40d152a7ae18aca1, 0xa65563d485ca3052},
	} {
		for _, p := range products() {
			near, _ := p.call(p.fits(x.v.near(7, 13, 21), x.w.near(13, 5, 22)))
			mixed, _ := p.call(p.fits(x.v.mixed(7, 13, 21), x.w.mixed(13, 5, 22)))
			if digest(near, mixed) != x.products {
				t.Errorf("P14.3: %s of %s and %s makes %#x, not %#x", p.name, x.v.name, x.w.name, digest(near, mixed), x.products)
			}
		}
		var l []api.Tensor
		for _, make := range [][2]func(rows, cols int, seed uint64) api.Tensor{{x.v.near, x.w.near}, {x.v.mixed, x.w.mixed}} {
			a, b := make[0](7, 13, 21), make[1](7, 13, 23)
			added, _ := Add(a, b)
			multiplied, _ := Mul(a, b)
			biased, _ := Bias(a, make[1](1, 13, 24))
			l = append(l, added, multiplied, biased)
		}
		if digest(l...) != x.rows {
			t.Errorf("P14.3: Add, Mul, Bias of %s and %s make %#x, not %#x", x.v.name, x.w.name, digest(l...), x.rows)
		}
	}
}

// P14.3: so are Sums and By.
func TestOneTensorSameEverywhere(t *testing.T) {
	for _, x := range []struct {
		v        layout
		sums, by uint64
	}{
		{half, 0xe97553418de09cbd, 0x149f717a629a53a9},
		{brain, 0x6272a809c98c1114, 0xc4e50c5df96b73e0},
		{single, 0xdd8c7c75e39b50c7, 0xff8179b78919b1d5},
	} {
		var sums, by []api.Tensor
		for _, a := range []api.Tensor{x.v.near(40, 9, 25), x.v.mixed(40, 9, 25)} {
			s, _ := Sums(a)
			b, _ := By(a, 0x3dcccccd)
			sums, by = append(sums, s), append(by, b)
		}
		if digest(sums...) != x.sums || digest(by...) != x.by {
			t.Errorf("P14.3: Sums, By of %s make %#x, %#x, not %#x, %#x", x.v.name, digest(sums...), digest(by...), x.sums, x.by)
		}
	}
}

// P14.3: the same arguments tell the same again, whatever was asked between, in any order, by many at once.
func TestSameAgain(t *testing.T) {
	var asked [][2]api.Tensor
	var first [][]api.Tensor
	for _, v := range layouts() {
		for _, w := range layouts() {
			for _, s := range []int{0, 1, 2, 7, 12} {
				a, b := v.near(s, s, 31), w.mixed(s, s, 32)
				asked, first = append(asked, [2]api.Tensor{a, b}), append(first, answers(a, b))
			}
		}
	}
	again := func() {
		for i := len(asked) - 1; i >= 0; i-- {
			for k, got := range answers(asked[i][0], asked[i][1]) {
				if !alike(got, first[i][k]) {
					t.Errorf("P14.3: answer %d of pair %d is %#x, and was %#x", k, i, got, first[i][k])
				}
			}
		}
	}
	again()
	var all sync.WaitGroup
	for range 4 {
		all.Go(again)
	}
	all.Wait()
}
