package exact_test

import (
	"math"
	"math/big"
	"testing"

	"almanacker/api"
	"almanacker/exact"
)

// edges are numbers at which something may go round.
func edges() []int {
	l := []int{math.MinInt, math.MaxInt}
	for _, n := range []int{0, 1 << 15, 1 << 31, 1 << 32, 3037000499, 1 << 61, 1 << 62, math.MaxInt / 3, math.MaxInt / 7} {
		for d := -3; d <= 3; d++ {
			l = append(l, n+d, -n+d)
		}
	}
	for d := 1; d <= 3; d++ {
		l = append(l, math.MinInt+d, math.MaxInt-d)
	}
	return l
}

// want holds an answer against a number without end; over is the error where 64 bits don't hold it.
func want(t *testing.T, call string, a, b, n int, e api.Errno, exactly *big.Int) {
	t.Helper()
	if exactly.IsInt64() {
		if e != api.OK || int64(n) != exactly.Int64() {
			t.Errorf("%s(%d, %d) = %d, %d; want %s", call, a, b, n, e, exactly)
		}
		return
	}
	if e != api.ErrOver || n != 0 {
		t.Errorf("%s(%d, %d) = %d, %d; want 0, ErrOver", call, a, b, n, e)
	}
}

func TestAddAndMulAgainstNumbersWithoutEnd(t *testing.T) {
	for _, a := range edges() {
		for _, b := range edges() {
			x, y := big.NewInt(int64(a)), big.NewInt(int64(b))
			n, e := exact.Add(a, b)
			want(t, "Add", a, b, n, e, new(big.Int).Add(x, y))
			n, e = exact.Mul(a, b)
			want(t, "Mul", a, b, n, e, new(big.Int).Mul(x, y))
		}
	}
}

func TestDivAndModAgainstNumbersWithoutEnd(t *testing.T) {
	for _, a := range edges() {
		for _, b := range edges() {
			q, e := exact.Div(a, b)
			r, f := exact.Mod(a, b)
			if b <= 0 {
				if q != 0 || e != api.ErrArg || r != 0 || f != api.ErrArg {
					t.Errorf("Div, Mod(%d, %d) = %d, %d; %d, %d; want ErrArg", a, b, q, e, r, f)
				}
				continue
			}
			down, left := new(big.Int).DivMod(big.NewInt(int64(a)), big.NewInt(int64(b)), new(big.Int))
			want(t, "Div", a, b, q, e, down)
			want(t, "Mod", a, b, r, f, left)
		}
	}
}

func TestExamples(t *testing.T) {
	if n, e := exact.Div(-7, 2); n != -4 || e != api.OK {
		t.Errorf("Div(-7, 2) = %d, %d", n, e)
	}
	if n, e := exact.Mod(-7, 2); n != 1 || e != api.OK {
		t.Errorf("Mod(-7, 2) = %d, %d", n, e)
	}
	if n, e := exact.Mul(math.MinInt, -1); n != 0 || e != api.ErrOver {
		t.Errorf("Mul(least, -1) = %d, %d", n, e)
	}
}

func TestWhatIsLeftIsBelowTheDivisor(t *testing.T) {
	for a := -60; a <= 60; a++ {
		for b := 1; b <= 25; b++ {
			q, _ := exact.Div(a, b)
			r, _ := exact.Mod(a, b)
			if r < 0 || r >= b || q*b+r != a {
				t.Errorf("%d by %d: %d, %d left", a, b, q, r)
			}
		}
	}
}
