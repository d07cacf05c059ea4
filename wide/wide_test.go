package wide_test

import (
	"math"
	"math/big"
	"testing"

	"ductus/api"
	"ductus/wide"
)

const (
	minHi = math.MinInt64
	maxHi = math.MaxInt64
	maxLo = math.MaxUint64
)

var (
	least    = wide.Int{Hi: minHi, Lo: 0}
	greatest = wide.Int{Hi: maxHi, Lo: maxLo}
)

// numbers are those of 64 bits at both ends, about 0, about the words' halves, and some between.
func numbers() []int64 {
	return []int64{
		math.MinInt64, math.MinInt64 + 1, -1 << 62, -6700417000641, -1<<32 - 1, -1 << 32, -1<<32 + 1, -1000, -7, -3, -2, -1,
		0, 1, 2, 3, 7, 10, 256, 999983, 1<<32 - 1, 1 << 32, 1<<32 + 1, 6700417000641, 1 << 62, math.MaxInt64 - 1, math.MaxInt64,
	}
}

// wides are numbers of 128 bits: each high word of numbers with each low word at the ends and the middle of its range.
func wides() []wide.Int {
	var l []wide.Int
	for _, hi := range numbers() {
		for _, lo := range []uint64{0, 1, 2, 12345678901234567, 1<<63 - 1, 1 << 63, 1<<63 + 1, maxLo - 1, maxLo} {
			l = append(l, wide.Int{Hi: hi, Lo: lo})
		}
	}
	return l
}

// whole is the number that the fields tell.
func whole(a wide.Int) *big.Int {
	n := new(big.Int).Lsh(big.NewInt(a.Hi), 64)
	return n.Add(n, new(big.Int).SetUint64(a.Lo))
}

// round is the wide number that n is modulo 2^128.
func round(n *big.Int) wide.Int {
	low := new(big.Int).SetUint64(maxLo)
	lo := new(big.Int).And(n, low).Uint64()
	hi := new(big.Int).And(new(big.Int).Rsh(n, 64), low).Uint64()
	return wide.Int{Hi: int64(hi), Lo: lo}
}

// P1.1
func TestOf(t *testing.T) {
	for _, x := range []struct {
		n    int64
		want wide.Int
	}{
		{0, wide.Int{}},
		{5, wide.Int{Hi: 0, Lo: 5}},
		{-1, wide.Int{Hi: -1, Lo: maxLo}},
		{-5, wide.Int{Hi: -1, Lo: maxLo - 4}},
		{math.MaxInt64, wide.Int{Hi: 0, Lo: 1<<63 - 1}},
		{math.MinInt64, wide.Int{Hi: -1, Lo: 1 << 63}},
	} {
		if got := wide.Of(x.n); got != x.want {
			t.Errorf("Of(%d) = %v, not %v", x.n, got, x.want)
		}
	}
	for _, n := range numbers() {
		if got := wide.Of(n); whole(got).Cmp(big.NewInt(n)) != 0 {
			t.Errorf("Of(%d) = %v", n, got)
		}
	}
}

// P1.1
func TestMul(t *testing.T) {
	for _, x := range []struct {
		a, b int64
		want wide.Int
	}{
		{math.MaxInt64, 2, wide.Int{Hi: 0, Lo: maxLo - 1}},
		{6, 7, wide.Of(42)},
		{-6, 7, wide.Of(-42)},
		{6, -7, wide.Of(-42)},
		{-6, -7, wide.Of(42)},
		{0, math.MinInt64, wide.Int{}},
		{math.MinInt64, -1, wide.Int{Hi: 0, Lo: 1 << 63}},
		{math.MinInt64, math.MinInt64, wide.Int{Hi: 1 << 62, Lo: 0}},
		{math.MaxInt64, math.MaxInt64, wide.Int{Hi: 1<<62 - 1, Lo: 1}},
		{math.MinInt64, math.MaxInt64, wide.Int{Hi: -1 << 62, Lo: 1 << 63}},
	} {
		if got := wide.Mul(x.a, x.b); got != x.want {
			t.Errorf("Mul(%d, %d) = %v, not %v", x.a, x.b, got, x.want)
		}
	}
	for _, a := range numbers() {
		for _, b := range numbers() {
			want := new(big.Int).Mul(big.NewInt(a), big.NewInt(b))
			if got := wide.Mul(a, b); whole(got).Cmp(want) != 0 {
				t.Errorf("Mul(%d, %d) = %v, not %v", a, b, got, want)
			}
		}
	}
}

// P1.1
func TestAddAndSub(t *testing.T) {
	for _, x := range []struct{ a, b, sum wide.Int }{
		{wide.Of(2), wide.Of(3), wide.Of(5)},
		{wide.Of(-2), wide.Of(3), wide.Of(1)},
		{wide.Of(-2), wide.Of(-3), wide.Of(-5)},
		{wide.Int{Lo: maxLo}, wide.Of(1), wide.Int{Hi: 1}},
		{wide.Int{Hi: -1, Lo: maxLo}, wide.Of(1), wide.Int{}},
		{greatest, wide.Of(1), least},
		{least, wide.Of(-1), greatest},
		{least, least, wide.Int{}},
		{greatest, greatest, wide.Of(-2)},
	} {
		if got := wide.Add(x.a, x.b); got != x.sum {
			t.Errorf("Add(%v, %v) = %v, not %v", x.a, x.b, got, x.sum)
		}
		if got := wide.Sub(x.sum, x.b); got != x.a {
			t.Errorf("Sub(%v, %v) = %v, not %v", x.sum, x.b, got, x.a)
		}
	}
	for _, a := range wides() {
		for _, b := range wides() {
			if got, want := wide.Add(a, b), round(new(big.Int).Add(whole(a), whole(b))); got != want {
				t.Errorf("Add(%v, %v) = %v, not %v", a, b, got, want)
			}
			if got, want := wide.Sub(a, b), round(new(big.Int).Sub(whole(a), whole(b))); got != want {
				t.Errorf("Sub(%v, %v) = %v, not %v", a, b, got, want)
			}
		}
	}
}

// P1.2
func TestCmp(t *testing.T) {
	for _, x := range []struct {
		a, b wide.Int
		want int
	}{
		{least, greatest, -1},
		{greatest, least, 1},
		{least, least, 0},
		{greatest, greatest, 0},
		{wide.Of(-1), wide.Of(0), -1},
		{wide.Int{Lo: 1 << 63}, wide.Int{Lo: 1}, 1},
		{wide.Int{Hi: 1}, wide.Int{Lo: maxLo}, 1},
		{wide.Int{Hi: -1, Lo: 3}, wide.Int{Hi: -1, Lo: 4}, -1},
	} {
		if got := wide.Cmp(x.a, x.b); got != x.want {
			t.Errorf("Cmp(%v, %v) = %d, not %d", x.a, x.b, got, x.want)
		}
	}
	for _, a := range wides() {
		for _, b := range wides() {
			if got, want := wide.Cmp(a, b), whole(a).Cmp(whole(b)); got != want {
				t.Errorf("Cmp(%v, %v) = %d, not %d", a, b, got, want)
			}
		}
	}
}

// P1.2
func TestSign(t *testing.T) {
	for _, x := range []struct {
		a    wide.Int
		want int
	}{
		{wide.Int{}, 0},
		{wide.Of(1), 1},
		{wide.Of(-1), -1},
		{wide.Int{Lo: maxLo}, 1},
		{wide.Int{Hi: -1, Lo: 0}, -1},
		{wide.Int{Hi: 1, Lo: 0}, 1},
		{least, -1},
		{greatest, 1},
	} {
		if got := wide.Sign(x.a); got != x.want {
			t.Errorf("Sign(%v) = %d, not %d", x.a, got, x.want)
		}
	}
	for _, a := range wides() {
		if got, want := wide.Sign(a), whole(a).Sign(); got != want {
			t.Errorf("Sign(%v) = %d, not %d", a, got, want)
		}
	}
}

// P1.3
func TestDiv(t *testing.T) {
	for _, x := range []struct {
		a    wide.Int
		b    int64
		q    wide.Int
		left int64
	}{
		{wide.Of(7), 2, wide.Of(3), 1},
		{wide.Of(-7), 2, wide.Of(-4), 1},
		{wide.Of(-8), 2, wide.Of(-4), 0},
		{wide.Of(-1), math.MaxInt64, wide.Of(-1), math.MaxInt64 - 1},
		{wide.Int{}, math.MaxInt64, wide.Int{}, 0},
		{wide.Int{Lo: maxLo}, 1, wide.Int{Lo: maxLo}, 0},
		{wide.Int{Hi: 1}, 3, wide.Int{Lo: maxLo / 3}, 1},
		{least, 1, least, 0},
		{least, 2, wide.Int{Hi: minHi / 2}, 0},
		{greatest, 1, greatest, 0},
		{greatest, 2, wide.Int{Hi: maxHi / 2, Lo: maxLo}, 1},
		{least, math.MaxInt64, wide.Int{Hi: -2, Lo: maxLo - 2}, math.MaxInt64 - 2},
	} {
		if q, left, e := wide.Div(x.a, x.b); q != x.q || left != x.left || e != api.OK {
			t.Errorf("Div(%v, %d) = %v, %d, %d, not %v, %d", x.a, x.b, q, left, e, x.q, x.left)
		}
	}
	for _, a := range wides() {
		for _, b := range numbers() {
			if b > 0 {
				// Of a divisor above 0, Euclid's division rounds down.
				wantQ, wantLeft := new(big.Int).DivMod(whole(a), big.NewInt(b), new(big.Int))
				q, left, e := wide.Div(a, b)
				if whole(q).Cmp(wantQ) != 0 || big.NewInt(left).Cmp(wantLeft) != 0 || e != api.OK {
					t.Errorf("Div(%v, %d) = %v, %d, %d, not %v, %v", a, b, q, left, e, wantQ, wantLeft)
				}
			}
		}
	}
}

// P1.3
func TestDivByNone(t *testing.T) {
	for _, a := range wides() {
		for _, b := range numbers() {
			if b <= 0 {
				if q, left, e := wide.Div(a, b); q != (wide.Int{}) || left != 0 || e != api.ErrArg {
					t.Errorf("Div(%v, %d) = %v, %d, %d, not ErrArg alone", a, b, q, left, e)
				}
			}
		}
	}
}

// P1.3
func TestNarrow(t *testing.T) {
	for _, x := range []struct {
		a  wide.Int
		n  int64
		ok bool
	}{
		{wide.Int{}, 0, true},
		{wide.Of(-7), -7, true},
		{wide.Int{Hi: 0, Lo: 1<<63 - 1}, math.MaxInt64, true},
		{wide.Int{Hi: 0, Lo: 1 << 63}, 0, false},
		{wide.Int{Hi: -1, Lo: 1 << 63}, math.MinInt64, true},
		{wide.Int{Hi: -1, Lo: 1<<63 - 1}, 0, false},
		{wide.Int{Hi: 1, Lo: 5}, 0, false},
		{wide.Int{Hi: -2, Lo: maxLo}, 0, false},
		{least, 0, false},
		{greatest, 0, false},
	} {
		if n, ok := wide.Narrow(x.a); n != x.n || ok != x.ok {
			t.Errorf("Narrow(%v) = %d, %t, not %d, %t", x.a, n, ok, x.n, x.ok)
		}
	}
	for _, a := range wides() {
		want, fits := int64(0), whole(a).IsInt64()
		if fits {
			want = whole(a).Int64()
		}
		if n, ok := wide.Narrow(a); n != want || ok != fits {
			t.Errorf("Narrow(%v) = %d, %t, not %d, %t", a, n, ok, want, fits)
		}
	}
	for _, n := range numbers() {
		if got, ok := wide.Narrow(wide.Of(n)); got != n || !ok {
			t.Errorf("Narrow(Of(%d)) = %d, %t", n, got, ok)
		}
	}
}

// P1.4
func TestQuotientTimesDivisorAndLeft(t *testing.T) {
	for _, a := range wides() {
		for _, b := range numbers() {
			if b <= 0 {
				continue
			}
			q, left, e := wide.Div(a, b)
			back := new(big.Int).Mul(whole(q), big.NewInt(b))
			back.Add(back, big.NewInt(left))
			if back.Cmp(whole(a)) != 0 || left < 0 || left >= b || e != api.OK {
				t.Errorf("Div(%v, %d) = %v, %d, %d: that tells %v", a, b, q, left, e, back)
			}
		}
	}
	// The same by the package's own calls, where the number is a product and a rest.
	for _, n := range numbers() {
		for _, b := range numbers() {
			if b <= 0 {
				continue
			}
			for _, rest := range []int64{0, b / 2, b - 1} {
				a := wide.Add(wide.Mul(n, b), wide.Of(rest))
				if q, left, e := wide.Div(a, b); q != wide.Of(n) || left != rest || e != api.OK {
					t.Errorf("Div of %d times %d and %d = %v, %d, %d", n, b, rest, q, left, e)
				}
			}
		}
	}
}
