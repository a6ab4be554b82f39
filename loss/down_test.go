package loss

import (
	"math"
	"testing"

	"anneal/api"
)

// number is the machine's own float of a Single's bits, with room for small parts.
func number(v uint32) float64 { return float64(float(v)) }

// down is z's numbers, each less size times its slope; of Single.
func down(z, slopes api.Tensor, size float32) api.Tensor {
	told := of(z.Rows, z.Cols, api.Single)
	for r, x := range floats(z) {
		for c, v := range x {
			step := size * float(slopes.V[r*z.Cols+c])
			told.V = append(told.V, bitsOf(v-step))
		}
	}
	return told
}

// realSoftmax is Softmax's loss as reals have it, nearly.
func realSoftmax(z [][]float64, y []int) float64 {
	all := 0.0
	for r, x := range z {
		s := 0.0
		for _, v := range x {
			s += math.Exp(v)
		}
		all += math.Log(s) - x[y[r]]
	}
	return all / float64(len(z))
}

// realMse is Mse's loss as reals have it, nearly.
func realMse(z, t [][]float64) float64 {
	all, n := 0.0, 0.0
	for r, x := range z {
		for c, v := range x {
			all += (v - t[r][c]) * (v - t[r][c])
			n++
		}
	}
	return all / n
}

// doubles are a tensor's numbers, with room for small parts.
func doubles(t api.Tensor) [][]float64 {
	l := make([][]float64, t.Rows)
	for r, x := range floats(t) {
		for _, v := range x {
			l[r] = append(l[r], float64(v))
		}
	}
	return l
}

// holdSlopes holds a loss and slopes against what reals have, nearly, as far as ever
// a number that is a little more, a little less shows it.
func holdSlopes(t *testing.T, what string, got told, z [][]float64, real func() float64) {
	t.Helper()
	const little = 1.0 / 1024
	if want := real(); math.Abs(number(got.loss)-want) > 1e-5*(1+want) {
		t.Errorf("%s: the loss is %g, not near %g", what, number(got.loss), want)
	}
	for r, x := range z {
		for c, v := range x {
			x[c] = v + little
			more := real()
			x[c] = v - little
			less := real()
			x[c] = v
			slope := (more - less) / (2 * little)
			if have := number(got.slopes.V[r*len(x)+c]); math.Abs(have-slope) > 1e-5 {
				t.Errorf("%s: at %d, %d the slope is %g, not near %g", what, r, c, have, slope)
			}
		}
	}
}

// P16.4: slopes are how a loss changes with each number, as reals have it.
func TestSlopesAreSlopes(t *testing.T) {
	for i, s := range []struct{ rows, cols int }{{1, 1}, {1, 2}, {3, 2}, {2, 5}, {7, 10}} {
		for _, w := range layouts() {
			z, y, x := w.near(s.rows, s.cols, uint64(i+1)), labels(s.rows, s.cols, uint64(i+2)), w.near(s.rows, s.cols, uint64(i+3))
			a, b := doubles(z), doubles(x)
			holdSlopes(t, "P16.4: Softmax of "+w.name, allOf(Softmax(z, y)), a, func() float64 { return realSoftmax(a, y) })
			holdSlopes(t, "P16.4: Mse of "+w.name, allOf(Mse(z, x)), a, func() float64 { return realMse(a, b) })
		}
	}
}

// P16.4: a small step against the slopes has a lesser loss, one along them a greater one.
func TestSmallStepDown(t *testing.T) {
	for seed := range uint64(30) {
		for _, w := range layouts() {
			z, x, y := w.near(4, 6, seed+1), w.near(4, 6, seed+2), labels(4, 6, seed+3)
			for _, size := range []float32{0.125, 0.5} {
				loss, slopes, _ := Softmax(z, y)
				less, _, _ := Softmax(down(z, slopes, size), y)
				more, _, _ := Softmax(down(z, slopes, -size), y)
				if !(float(less) < float(loss) && float(loss) < float(more)) {
					t.Errorf("P16.4: Softmax of %s: %g, %g, %g down, here, up", w.name, float(less), float(loss), float(more))
				}
				loss, slopes, _ = Mse(z, x)
				less, _, _ = Mse(down(z, slopes, size), x)
				more, _, _ = Mse(down(z, slopes, -size), x)
				if !(float(less) < float(loss) && float(loss) < float(more)) {
					t.Errorf("P16.4: Mse of %s: %g, %g, %g down, here, up", w.name, float(less), float(loss), float(more))
				}
			}
		}
	}
}

// P16.4: who goes down on and on comes to nearly no loss, and has all rows right.
func TestAllTheWayDown(t *testing.T) {
	for _, w := range layouts() {
		z, x, y := w.near(5, 4, 1), w.near(5, 4, 2), labels(5, 4, 3)
		least := uint32(inf)
		for range 300 {
			loss, slopes, _ := Softmax(z, y)
			if float(loss) >= float(least) {
				t.Errorf("P16.4: Softmax of %s is %g behind %g", w.name, float(loss), float(least))
			}
			least, z = loss, down(z, slopes, 5)
		}
		n, _ := Right(z, y)
		if number(least) > 0.02 || n != 5 {
			t.Errorf("P16.4: Softmax of %s is %g behind all steps, %d rows are right", w.name, number(least), n)
		}
		for range 100 {
			_, slopes, _ := Mse(z, x)
			z = down(z, slopes, 5)
		}
		if loss, _, _ := Mse(z, x); number(loss) > 1e-12 {
			t.Errorf("P16.4: Mse of %s is %g behind all steps", w.name, number(loss))
		}
	}
}

// P16.4: a row's slopes are together nearly nought, and the label's alone is below it.
func TestSoftmaxSlopesOfARow(t *testing.T) {
	for seed := range uint64(20) {
		for _, w := range layouts() {
			z, y := w.near(6, 7, seed+1), labels(6, 7, seed+50)
			_, slopes, _ := Softmax(z, y)
			for r, x := range floats(slopes) {
				so := 0.0
				for j, v := range x {
					so += float64(v)
					if j == y[r] != (v < 0) {
						t.Errorf("P16.4: Softmax of %s: the slope at %d is %g, and the label %d", w.name, j, v, y[r])
					}
				}
				if math.Abs(so) > 1e-6 {
					t.Errorf("P16.4: Softmax of %s: a row's slopes are together %g", w.name, so)
				}
			}
		}
	}
}
