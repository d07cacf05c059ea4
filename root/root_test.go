package root_test

import (
	"math"
	"math/big"
	"slices"
	"testing"

	"ductus/root"
	"ductus/wide"
)

// longest is the root of the greatest number of 128 bits.
const longest = 13043817825332782212

var greatest = wide.Int{Hi: math.MaxInt64, Lo: math.MaxUint64}

// words are rising numbers of 64 bits: all up to 300, those about each power of two, and some between.
func words() []uint64 {
	var l []uint64
	for n := range uint64(301) {
		l = append(l, n)
	}
	for k := range 64 {
		p := uint64(1) << k
		l = append(l, p-2, p-1, p, p+1, p+2, p|p>>1, p|p>>2|p>>5|p>>11|p>>17)
	}
	l = append(l, math.MaxUint64-2, math.MaxUint64-1, math.MaxUint64)
	slices.Sort(l)
	return slices.Compact(l)
}

// wides are rising numbers of 128 bits, none below 0.
func wides() []wide.Int {
	var l []wide.Int
	for _, hi := range words() {
		if hi > math.MaxInt64 {
			break
		}
		for _, lo := range []uint64{0, 1, 2, 12345678901234567, 1<<63 - 1, 1 << 63, math.MaxUint64 - 1, math.MaxUint64} {
			l = append(l, wide.Int{Hi: int64(hi), Lo: lo})
		}
	}
	return l
}

// roots are rising numbers up to most, most with them.
func roots(most uint64) []uint64 {
	l := []uint64{}
	for _, r := range words() {
		if r < most {
			l = append(l, r)
		}
	}
	return append(l, most-1, most)
}

// square is r times r, of an r up to longest.
func square(r uint64) wide.Int {
	n := new(big.Int).SetUint64(r)
	n.Mul(n, n)
	low := new(big.Int).SetUint64(math.MaxUint64)
	return wide.Int{Hi: new(big.Int).Rsh(n, 64).Int64(), Lo: new(big.Int).And(n, low).Uint64()}
}

// whole is the number that the fields tell.
func whole(a wide.Int) *big.Int {
	n := new(big.Int).Lsh(big.NewInt(a.Hi), 64)
	return n.Add(n, new(big.Int).SetUint64(a.Lo))
}

// P2.1
func TestSqrt(t *testing.T) {
	for _, x := range []struct{ n, want uint64 }{
		{0, 0}, {1, 1}, {2, 1}, {3, 1}, {4, 2}, {5, 2}, {8, 2}, {9, 3}, {15, 3}, {16, 4}, {24, 4}, {25, 5},
		{99, 9}, {100, 10}, {101, 10},
		{1<<32 - 1, 65535}, {1 << 32, 65536},
		{1<<62 - 1, 1<<31 - 1}, {1 << 62, 1 << 31},
		{1<<63 - 1, 3037000499}, {1 << 63, 3037000499},
		{(1<<32-1)*(1<<32-1) - 1, 1<<32 - 2}, {(1<<32 - 1) * (1<<32 - 1), 1<<32 - 1},
		{math.MaxUint64 - 1, 1<<32 - 1}, {math.MaxUint64, 1<<32 - 1},
	} {
		if got := root.Sqrt(x.n); got != x.want {
			t.Errorf("Sqrt(%d) = %d, not %d", x.n, got, x.want)
		}
	}
	for _, n := range words() {
		want := new(big.Int).Sqrt(new(big.Int).SetUint64(n)).Uint64()
		if got := root.Sqrt(n); got != want {
			t.Errorf("Sqrt(%d) = %d, not %d", n, got, want)
		}
	}
}

// P2.1: every number up to some, by counting.
func TestSqrtOfAllSmallNumbers(t *testing.T) {
	want := uint64(0)
	for n := range uint64(1 << 18) {
		if (want+1)*(want+1) == n {
			want++
		}
		if got := root.Sqrt(n); got != want {
			t.Fatalf("Sqrt(%d) = %d, not %d", n, got, want)
		}
	}
}

// P2.1: a root changes at a square, and nowhere else.
func TestSqrtAboutSquares(t *testing.T) {
	for _, r := range roots(1<<32 - 1) {
		n := r * r
		if got := root.Sqrt(n); got != r {
			t.Errorf("Sqrt(%d) = %d, not %d", n, got, r)
		}
		if got := root.Sqrt(n + 2*r); got != r {
			t.Errorf("Sqrt(%d) = %d, not %d", n+2*r, got, r)
		}
		if r > 0 && root.Sqrt(n-1) != r-1 {
			t.Errorf("Sqrt(%d) = %d, not %d", n-1, root.Sqrt(n-1), r-1)
		}
	}
}

// P2.1
func TestLong(t *testing.T) {
	for _, x := range []struct {
		a    wide.Int
		want uint64
	}{
		{wide.Int{}, 0},
		{wide.Of(1), 1},
		{wide.Of(99), 9},
		{wide.Int{Lo: math.MaxUint64}, 1<<32 - 1},
		{wide.Int{Hi: 1}, 1 << 32},
		{wide.Int{Hi: 1, Lo: math.MaxUint64}, 6074000999},
		{wide.Mul(math.MaxInt64, math.MaxInt64), math.MaxInt64},
		{wide.Sub(wide.Mul(math.MaxInt64, math.MaxInt64), wide.Of(1)), math.MaxInt64 - 1},
		{wide.Int{Hi: 1<<62 - 1, Lo: math.MaxUint64}, 1<<63 - 1},
		{wide.Int{Hi: 1 << 62}, 1 << 63},
		{wide.Int{Hi: math.MaxInt64}, longest - 1},
		{greatest, longest},
	} {
		if got := root.Long(x.a); got != x.want {
			t.Errorf("Long(%v) = %d, not %d", x.a, got, x.want)
		}
	}
	for _, a := range wides() {
		want := new(big.Int).Sqrt(whole(a)).Uint64()
		if got := root.Long(a); got != want {
			t.Errorf("Long(%v) = %d, not %d", a, got, want)
		}
	}
}

// P2.1: a root changes at a square, and nowhere else.
func TestLongAboutSquares(t *testing.T) {
	for _, r := range roots(longest) {
		a := square(r)
		if got := root.Long(a); got != r {
			t.Errorf("Long(%v) = %d, not %d", a, got, r)
		}
		if below := wide.Sub(a, wide.Of(1)); r > 0 && root.Long(below) != r-1 {
			t.Errorf("Long(%v) = %d, not %d", below, root.Long(below), r-1)
		}
		if r == longest {
			continue // the next square does not fit
		}
		if last := wide.Sub(square(r+1), wide.Of(1)); root.Long(last) != r {
			t.Errorf("Long(%v) = %d, not %d", last, root.Long(last), r)
		}
	}
}

// P2.1
func TestLongBelowNought(t *testing.T) {
	for _, lo := range words() {
		for _, hi := range []int64{-1, -2, -3, -1 << 32, -1 << 62, math.MinInt64 + 1, math.MinInt64} {
			a := wide.Int{Hi: hi, Lo: lo}
			if got := root.Long(a); got != 0 {
				t.Errorf("Long(%v) = %d, not 0", a, got)
			}
		}
	}
}

// P2.1
func TestSquare(t *testing.T) {
	for _, x := range []struct {
		n    uint64
		want bool
	}{
		{0, true}, {1, true}, {2, false}, {3, false}, {4, true}, {8, false}, {9, true}, {99, false}, {100, true}, {101, false},
		{1 << 31, false}, {1 << 32, true}, {1<<32 + 1, false},
		{1<<62 - 1, false}, {1 << 62, true}, {1 << 63, false},
		{(1<<32 - 1) * (1<<32 - 1), true}, {math.MaxUint64, false},
	} {
		if got := root.Square(x.n); got != x.want {
			t.Errorf("Square(%d) = %t, not %t", x.n, got, x.want)
		}
	}
	for _, r := range roots(1<<32 - 1) {
		n := r * r
		if !root.Square(n) {
			t.Errorf("Square(%d) = false, of %d squared", n, r)
		}
		// Two squares are next to one another only at 0 and 1.
		if r > 0 && root.Square(n+1) {
			t.Errorf("Square(%d) = true", n+1)
		}
		if r > 1 && root.Square(n-1) {
			t.Errorf("Square(%d) = true", n-1)
		}
	}
}

// P2.1: as many squares as there are, and no more.
func TestSquaresAreCounted(t *testing.T) {
	count := 0
	for n := range uint64(1 << 16) {
		if root.Square(n) {
			count++
		}
	}
	if count != 1<<8 {
		t.Errorf("%d squares below 2^16, not 2^8", count)
	}
}

// P2.2
func TestRootsRise(t *testing.T) {
	last := uint64(0)
	for _, n := range words() {
		r := root.Sqrt(n)
		if r < last {
			t.Errorf("Sqrt(%d) = %d, below %d of a lesser number", n, r, last)
		}
		last = r
	}
	last = 0
	for _, a := range append([]wide.Int{{Hi: math.MinInt64}, wide.Of(-4), wide.Of(-1)}, wides()...) {
		r := root.Long(a)
		if r < last {
			t.Errorf("Long(%v) = %d, below %d of a lesser number", a, r, last)
		}
		last = r
	}
	for _, n := range words() {
		if s, l := root.Sqrt(n), root.Long(wide.Int{Lo: n}); s != l {
			t.Errorf("Sqrt(%d) = %d, but Long of it is %d", n, s, l)
		}
	}
}
