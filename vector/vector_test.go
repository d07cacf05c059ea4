package vector_test

import (
	"math"
	"math/big"
	"testing"

	"ductus/api"
	"ductus/vector"
)

const (
	far  = 1 << 30
	most = 1 << 31
)

// numbers are some of what X and Y of a near point can be, both ends among them.
func numbers() []int {
	return []int{-far, -far + 1, -1 << 28, -998244, -257, -4, -3, -1, 0, 1, 2, 3, 5, 256, 65537, 1<<29 - 1, far - 1, far}
}

func points() []api.Pt {
	var l []api.Pt
	for _, x := range numbers() {
		for _, y := range numbers() {
			l = append(l, api.Pt{X: x, Y: y})
		}
	}
	return l
}

// few are points that are paired with all the others.
func few() []api.Pt {
	return []api.Pt{
		{}, {X: 1}, {Y: 1}, {X: -1}, {Y: -1}, {X: 3, Y: 4}, {X: -7, Y: 2}, {X: -300, Y: -77}, {X: 1 << 20, Y: -1<<21 - 1},
		{X: far, Y: far}, {X: -far, Y: far}, {X: far, Y: -far}, {X: -far, Y: -far}, {X: far}, {Y: -far}, {X: far - 1, Y: 1 - far},
	}
}

// counts are what r, k and n can be, both ends among them.
func counts() []int {
	return []int{-most, 1 - most, -far, -1000, -10, -3, -2, -1, 0, 1, 2, 3, 7, 10, 255, 256, 1 << 17, 1000003, far, most - 1, most}
}

// nearest is the number that is nearest to a times b, divided by c, which is above 0: the greater of two.
func nearest(a, b, c int) int {
	n := new(big.Int).Mul(big.NewInt(int64(a)), big.NewInt(int64(b)))
	n.Lsh(n, 1)
	n.Add(n, big.NewInt(int64(c)))
	q, _ := new(big.Int).DivMod(n, big.NewInt(2*int64(c)), new(big.Int))
	return int(q.Int64())
}

// length is the root of the sum of both squares, rounded down.
func length(a api.Pt) int {
	x, y := big.NewInt(int64(a.X)), big.NewInt(int64(a.Y))
	sum := new(big.Int).Add(x.Mul(x, x), y.Mul(y, y))
	return int(sum.Sqrt(sum).Int64())
}

// P4.1: Near.
func TestNear(t *testing.T) {
	for _, x := range []struct {
		n    int
		near bool
	}{
		{0, true}, {1, true}, {-1, true}, {far, true}, {-far, true}, {far + 1, false}, {-far - 1, false},
		{most, false}, {-most, false}, {1 << 40, false}, {1 << 62, false}, {math.MaxInt, false}, {math.MinInt, false}, {math.MinInt + 1, false},
	} {
		for _, a := range []api.Pt{{X: x.n}, {Y: x.n}, {X: x.n, Y: x.n}, {X: far, Y: x.n}, {X: x.n, Y: far}, {X: -far, Y: x.n}, {X: x.n, Y: -far}} {
			if vector.Near(a) != x.near {
				t.Error(a, !x.near)
			}
		}
	}
	if vector.Near(api.Pt{X: math.MaxInt, Y: math.MinInt}) {
		t.Error("both too far")
	}
}

// P4.1: Add, Sub, Neg and Left.
func TestByXAndByY(t *testing.T) {
	for _, x := range []struct{ a, b, sum, less api.Pt }{
		{api.Pt{X: 1, Y: 2}, api.Pt{X: 10, Y: 200}, api.Pt{X: 11, Y: 202}, api.Pt{X: -9, Y: -198}},
		{api.Pt{X: far, Y: -far}, api.Pt{X: far, Y: -far}, api.Pt{X: most, Y: -most}, api.Pt{}},
		{api.Pt{X: far, Y: -far}, api.Pt{X: -far, Y: far}, api.Pt{}, api.Pt{X: most, Y: -most}},
	} {
		if got := vector.Add(x.a, x.b); got != x.sum {
			t.Error("Add", x, got)
		}
		if got := vector.Sub(x.a, x.b); got != x.less {
			t.Error("Sub", x, got)
		}
	}
	for _, a := range points() {
		if got, want := vector.Neg(a), (api.Pt{X: -a.X, Y: -a.Y}); got != want {
			t.Error("Neg", a, got)
		}
		if got, want := vector.Left(a), (api.Pt{X: -a.Y, Y: a.X}); got != want {
			t.Error("Left", a, got)
		}
		for _, b := range few() {
			if got, want := vector.Add(a, b), (api.Pt{X: a.X + b.X, Y: a.Y + b.Y}); got != want {
				t.Error("Add", a, b, got)
			}
			if got, want := vector.Sub(a, b), (api.Pt{X: a.X - b.X, Y: a.Y - b.Y}); got != want {
				t.Error("Sub", a, b, got)
			}
		}
	}
	if got := vector.Left(api.Pt{X: 3, Y: 4}); got != (api.Pt{X: -4, Y: 3}) {
		t.Error("Left", got)
	}
}

// P4.1: Dot and Cross.
func TestProducts(t *testing.T) {
	for _, x := range []struct {
		a, b       api.Pt
		dot, cross int
	}{
		{api.Pt{X: 2, Y: 3}, api.Pt{X: 5, Y: 7}, 31, -1},
		{api.Pt{X: 1}, api.Pt{Y: 1}, 0, 1},
		{api.Pt{Y: 1}, api.Pt{X: 1}, 0, -1},
		{api.Pt{X: far, Y: far}, api.Pt{X: far, Y: far}, 1 << 61, 0},
		{api.Pt{X: far, Y: far}, api.Pt{X: -far, Y: far}, 0, 1 << 61},
		{api.Pt{X: far, Y: -far}, api.Pt{X: -far, Y: far}, -1 << 61, 0},
	} {
		if got := vector.Dot(x.a, x.b); got != x.dot {
			t.Error("Dot", x, got)
		}
		if got := vector.Cross(x.a, x.b); got != x.cross {
			t.Error("Cross", x, got)
		}
	}
	for _, a := range points() {
		for _, b := range few() {
			if got := vector.Dot(a, b); got != a.X*b.X+a.Y*b.Y {
				t.Error("Dot", a, b, got)
			}
			if got := vector.Cross(a, b); got != a.X*b.Y-a.Y*b.X {
				t.Error("Cross", a, b, got)
			}
		}
	}
}

// P4.2: Len.
func TestLen(t *testing.T) {
	for a, want := range map[api.Pt]int{
		{}: 0, {X: 1}: 1, {Y: -1}: 1, {X: 1, Y: 1}: 1, {X: 2, Y: 2}: 2, {X: 3, Y: 4}: 5, {X: -5, Y: 12}: 13,
		{X: 2, Y: -3}: 3, {X: far}: far, {Y: -far}: far, {X: far, Y: far}: 1518500249, {X: far, Y: 1}: far,
	} {
		if got := vector.Len(a); got != want {
			t.Error(a, got)
		}
	}
	for _, a := range points() {
		if got := vector.Len(a); got != length(a) {
			t.Error(a, got)
		}
	}
}

// P4.2: Norm.
func TestNorm(t *testing.T) {
	for _, x := range []struct {
		a    api.Pt
		r    int
		want api.Pt
	}{
		{api.Pt{X: 3, Y: 4}, 10, api.Pt{X: 6, Y: 8}},
		{api.Pt{X: 3, Y: 4}, -10, api.Pt{X: -6, Y: -8}},
		{api.Pt{X: 3, Y: 4}, 0, api.Pt{}},
		{api.Pt{}, 10, api.Pt{}},
		{api.Pt{}, -most, api.Pt{}},
		// Len of {1, 1} is 1, of {2, -3} it is 3.
		{api.Pt{X: 1, Y: 1}, 10, api.Pt{X: 10, Y: 10}},
		{api.Pt{X: 2, Y: -3}, 10, api.Pt{X: 7, Y: -10}},
		// Two that are as near: the greater one.
		{api.Pt{X: -6, Y: 8}, 5, api.Pt{X: -3, Y: 4}},
		{api.Pt{X: 6, Y: -8}, 1, api.Pt{X: 1, Y: -1}},
		{api.Pt{X: 2}, 1, api.Pt{X: 1}},
		{api.Pt{X: -10}, 1, api.Pt{X: -1}},
		{api.Pt{X: 30, Y: 40}, 25, api.Pt{X: 15, Y: 20}},
		{api.Pt{X: -30, Y: -40}, 5, api.Pt{X: -3, Y: -4}},
		{api.Pt{X: 6, Y: 8}, 25, api.Pt{X: 15, Y: 20}},
		{api.Pt{X: 28, Y: 96}, 50, api.Pt{X: 14, Y: 48}},
		{api.Pt{X: 6, Y: 8}, -25, api.Pt{X: -15, Y: -20}},
		{api.Pt{X: far, Y: far}, most, api.Pt{X: nearest(far, most, 1518500249), Y: nearest(far, most, 1518500249)}},
		{api.Pt{X: -far}, most, api.Pt{X: -most}},
	} {
		if got := vector.Norm(x.a, x.r); got != x.want {
			t.Error(x, got)
		}
	}
	for _, a := range points() {
		n := length(a)
		for _, r := range counts() {
			var want api.Pt
			if n > 0 {
				want = api.Pt{X: nearest(a.X, r, n), Y: nearest(a.Y, r, n)}
			}
			if got := vector.Norm(a, r); got != want {
				t.Error(a, r, got, want)
			}
		}
	}
}

// P4.3: Along.
func TestAlong(t *testing.T) {
	a, b := api.Pt{X: 10, Y: -20}, api.Pt{X: 15, Y: -25}
	for _, x := range []struct {
		k, n int
		want api.Pt
	}{
		{0, 5, a}, {5, 5, b}, {1, 5, api.Pt{X: 11, Y: -21}}, {10, 5, api.Pt{X: 20, Y: -30}}, {-1, 5, api.Pt{X: 9, Y: -19}},
		// Two that are as near: the greater one.
		{1, 2, api.Pt{X: 13, Y: -22}}, {-1, 2, api.Pt{X: 8, Y: -17}},
		{1, 0, a}, {5, 0, a}, {1, -1, a}, {-3, -5, a}, {most, -most, a}, {1, 1, b},
	} {
		if got := vector.Along(a, b, x.k, x.n); got != x.want {
			t.Error(x, got)
		}
	}
	for _, a := range few() {
		for _, b := range few() {
			for _, k := range counts() {
				for _, n := range counts() {
					want := a
					if n >= 1 {
						want = api.Pt{X: a.X + nearest(b.X-a.X, k, n), Y: a.Y + nearest(b.Y-a.Y, k, n)}
					}
					if got := vector.Along(a, b, k, n); got != want {
						t.Error(a, b, k, n, got, want)
					}
				}
			}
		}
	}
}

// P4.4: what follows.
func TestWhatFollows(t *testing.T) {
	for _, a := range points() {
		left := vector.Left(a)
		if vector.Dot(a, left) != 0 {
			t.Error("Dot", a)
		}
		if vector.Len(a) != vector.Len(left) {
			t.Error("Len", a)
		}
		for _, b := range few() {
			if vector.Cross(a, b) != -vector.Cross(b, a) {
				t.Error("Cross", a, b)
			}
		}
	}
}
