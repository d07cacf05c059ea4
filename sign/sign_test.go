package sign_test

import (
	"math"
	"math/big"
	"testing"

	"ductus/api"
	"ductus/sign"
)

const far = 1 << 30

func pt(x, y int) api.Pt { return api.Pt{X: x, Y: y} }

// grid are all points whose X and Y are no further from 0 than n.
func grid(n int) []api.Pt {
	var l []api.Pt
	for x := -n; x <= n; x++ {
		for y := -n; y <= n; y++ {
			l = append(l, pt(x, y))
		}
	}
	return l
}

// wild are near points of all quarters, both ends of what is near among them,
// and some that lie nearly, or just, on a line with others.
func wild() []api.Pt {
	return []api.Pt{
		{}, pt(1, 0), pt(0, -1), pt(-3, 4), pt(7, 7), pt(-256, -257), pt(1<<20, -1<<21),
		pt(far, far), pt(-far, far), pt(far, -far), pt(-far, -far), pt(far, 0), pt(0, -far), pt(-far, 1),
		pt(far, far-1), pt(far-1, far-2), pt(far-1, far), pt(1-far, -far), pt(1-far, 1-far), pt(far/2, far/2), pt(far/3, -far/3),
	}
}

func product(a, b int) *big.Int {
	return new(big.Int).Mul(big.NewInt(int64(a)), big.NewInt(int64(b)))
}

// cross is the exact Cross of b less a, and p less a.
func cross(a, b, p api.Pt) *big.Int {
	return new(big.Int).Sub(product(b.X-a.X, p.Y-a.Y), product(b.Y-a.Y, p.X-a.X))
}

func dot(u, v api.Pt) *big.Int {
	return new(big.Int).Add(product(u.X, v.X), product(u.Y, v.Y))
}

// onLine tells whether p is a, and some share of b less a, from none to all of it.
func onLine(a, b, p api.Pt) bool {
	u, v := pt(b.X-a.X, b.Y-a.Y), pt(p.X-a.X, p.Y-a.Y)
	if u == (api.Pt{}) {
		return v == u
	}
	share := dot(u, v)
	return cross(a, b, p).Sign() == 0 && share.Sign() >= 0 && share.Cmp(dot(u, u)) <= 0
}

// inTriangle tells whether the triangles that p makes with the sides of a
// triangle are as great as that, all together.
func inTriangle(a, b, c, p api.Pt) bool {
	all := cross(a, b, c)
	if all.Sign() == 0 {
		return onLine(a, b, p) || onLine(b, c, p) || onLine(a, c, p)
	}
	sum := new(big.Int)
	for _, part := range []*big.Int{cross(a, b, p), cross(b, c, p), cross(c, a, p)} {
		sum.Add(sum, part.Abs(part))
	}
	return sum.Cmp(all.Abs(all)) == 0
}

// P5.1: Side.
func TestSide(t *testing.T) {
	for _, x := range []struct {
		a, b, p api.Pt
		want    int
	}{
		{pt(0, 0), pt(1, 0), pt(0, 1), 1},
		{pt(0, 0), pt(1, 0), pt(0, -1), -1},
		{pt(0, 0), pt(1, 0), pt(9, 0), 0},
		{pt(5, 5), pt(6, 7), pt(4, 3), 0},
		{pt(5, 5), pt(5, 5), pt(4, 3), 0},
		{pt(5, 5), pt(4, 3), pt(5, 5), 0},
		{pt(5, 5), pt(4, 5), pt(4, 4), 1},
		{pt(-far, -far), pt(far, far-1), pt(far-1, far-2), -1},
		{pt(-far, -far), pt(far-1, far-2), pt(far, far-1), 1},
		{pt(-far, -far), pt(far, far), pt(1, 1), 0},
		{pt(-far, -far), pt(far, far), pt(0, 1), 1},
		{pt(-far, -far), pt(far, -far), pt(far, far), 1},
		{pt(-far, -far), pt(-far, far), pt(far, far), -1},
		{pt(far, -far), pt(far, far), pt(-far, far), 1},
	} {
		if got := sign.Side(x.a, x.b, x.p); got != x.want {
			t.Error(x, got)
		}
	}
	for _, l := range [][]api.Pt{grid(2), wild()} {
		for _, a := range l {
			for _, b := range l {
				for _, p := range l {
					if got := sign.Side(a, b, p); got != cross(a, b, p).Sign() {
						t.Error(a, b, p, got)
					}
				}
			}
		}
	}
}

// P5.1: Between.
func TestBetween(t *testing.T) {
	for _, x := range []struct {
		a, b, p api.Pt
		want    bool
	}{
		{pt(0, 0), pt(4, 2), pt(2, 1), true},
		{pt(0, 0), pt(4, 2), pt(0, 0), true},
		{pt(0, 0), pt(4, 2), pt(4, 2), true},
		{pt(0, 0), pt(4, 2), pt(6, 3), false},
		{pt(0, 0), pt(4, 2), pt(-2, -1), false},
		{pt(0, 0), pt(4, 2), pt(2, 2), false},
		{pt(0, 0), pt(4, 2), pt(3, 1), false},
		{pt(4, 0), pt(0, 4), pt(1, 3), true},
		{pt(4, 0), pt(0, 4), pt(-1, 5), false},
		{pt(3, 0), pt(3, 9), pt(3, 5), true},
		{pt(3, 0), pt(3, 9), pt(3, 10), false},
		{pt(0, 3), pt(9, 3), pt(10, 3), false},
		{pt(7, 7), pt(7, 7), pt(7, 7), true},
		{pt(7, 7), pt(7, 7), pt(7, 8), false},
		{pt(7, 7), pt(7, 7), pt(8, 7), false},
		{pt(-far, -far), pt(far, far), pt(5, 5), true},
		{pt(-far, -far), pt(far, far), pt(5, 6), false},
		{pt(-far, -far), pt(far-1, far-1), pt(far, far), false},
		{pt(-far, -far), pt(far, far-1), pt(far-1, far-2), false},
	} {
		if sign.Between(x.a, x.b, x.p) != x.want || sign.Between(x.b, x.a, x.p) != x.want {
			t.Error(x)
		}
	}
	for _, l := range [][]api.Pt{grid(2), wild()} {
		for _, a := range l {
			for _, b := range l {
				for _, p := range l {
					if got := sign.Between(a, b, p); got != onLine(a, b, p) {
						t.Error(a, b, p, got)
					}
				}
			}
		}
	}
}

// P5.1: Within.
func TestWithin(t *testing.T) {
	for _, x := range []struct {
		a, b, c, p api.Pt
		want       bool
	}{
		{pt(0, 0), pt(4, 0), pt(0, 4), pt(1, 1), true},
		{pt(0, 0), pt(4, 0), pt(0, 4), pt(0, 0), true},
		{pt(0, 0), pt(4, 0), pt(0, 4), pt(2, 2), true},
		{pt(0, 0), pt(4, 0), pt(0, 4), pt(2, 0), true},
		{pt(0, 0), pt(4, 0), pt(0, 4), pt(3, 2), false},
		{pt(0, 0), pt(4, 0), pt(0, 4), pt(5, 0), false},
		{pt(0, 0), pt(4, 0), pt(0, 4), pt(-1, 5), false},
		{pt(0, 0), pt(4, 0), pt(0, 4), pt(-1, 1), false},
		// Corners on one line.
		{pt(0, 0), pt(2, 2), pt(4, 4), pt(3, 3), true},
		{pt(0, 0), pt(2, 2), pt(4, 4), pt(5, 5), false},
		{pt(2, 2), pt(0, 0), pt(4, 4), pt(3, 3), true},
		{pt(2, 2), pt(4, 4), pt(0, 0), pt(3, 3), true},
		{pt(0, 0), pt(2, 2), pt(4, 4), pt(3, 2), false},
		{pt(0, 0), pt(0, 0), pt(4, 4), pt(3, 3), true},
		{pt(0, 0), pt(4, 4), pt(4, 4), pt(5, 5), false},
		{pt(3, 3), pt(3, 3), pt(3, 3), pt(3, 3), true},
		{pt(3, 3), pt(3, 3), pt(3, 3), pt(3, 4), false},
		// As great as a triangle of near points can be.
		{pt(-far, -far), pt(far, -far), pt(far, far), pt(0, 0), true},
		{pt(-far, -far), pt(far, -far), pt(far, far), pt(0, 1), false},
		{pt(-far, -far), pt(far, -far), pt(-far, far), pt(far, far), false},
		{pt(-far, -far), pt(far, far-1), pt(far, far), pt(far-1, far-1), true},
		{pt(-far, -far), pt(far, far-1), pt(far, far), pt(far-1, far-2), false},
	} {
		for _, got := range []bool{
			sign.Within(x.a, x.b, x.c, x.p), sign.Within(x.b, x.c, x.a, x.p), sign.Within(x.c, x.a, x.b, x.p),
			sign.Within(x.b, x.a, x.c, x.p), sign.Within(x.a, x.c, x.b, x.p), sign.Within(x.c, x.b, x.a, x.p),
		} {
			if got != x.want {
				t.Error(x)
			}
		}
	}
	for _, l := range [][]api.Pt{grid(1), wild()} {
		for _, a := range l {
			for _, b := range l {
				for _, c := range l {
					for _, p := range l {
						if got := sign.Within(a, b, c, p); got != inTriangle(a, b, c, p) {
							t.Error(a, b, c, p, got)
						}
					}
				}
			}
		}
	}
}

// P5.2: Sharp.
func TestSharp(t *testing.T) {
	for _, x := range []struct {
		u, v api.Pt
		want bool
	}{
		{pt(1, 0), pt(0, 1), false},
		{pt(1, 0), pt(-1, 1), true},
		{pt(1, 0), pt(1, 1), false},
		{pt(2, 3), pt(-3, 2), false},
		{pt(2, 3), pt(-3, 1), true},
		{pt(2, 3), pt(0, 0), false},
		{pt(0, 0), pt(-2, 3), false},
		{pt(far, far), pt(-far, far), false},
		{pt(far, far), pt(-far, far-1), true},
		{pt(far, far), pt(far, far), false},
		{pt(far, far), pt(-far, -far), true},
	} {
		if sign.Sharp(x.u, x.v) != x.want || sign.Sharp(x.v, x.u) != x.want {
			t.Error(x)
		}
	}
	for _, l := range [][]api.Pt{grid(3), wild()} {
		for _, u := range l {
			for _, v := range l {
				if got := sign.Sharp(u, v); got != (dot(u, v).Sign() < 0) {
					t.Error(u, v, got)
				}
			}
		}
	}
}

// miter is what the promise says of u, v and limit, in numbers of any size.
func miter(u, v api.Pt, limit int) bool {
	if limit < 1 {
		return false
	}
	limit = min(limit, 64)
	sum := new(big.Int).Add(dot(u, u), dot(u, v))
	return new(big.Int).Lsh(dot(u, u), 1).Cmp(sum.Mul(sum, product(limit, limit))) <= 0
}

// P5.2: Miter.
func TestMiter(t *testing.T) {
	for _, x := range []struct {
		u, v  api.Pt
		limit int
		want  bool
	}{
		{pt(3, 4), pt(3, 4), 1, true},
		{pt(3, 4), pt(3, 3), 1, false},
		{pt(3, 4), pt(3, 5), 1, true},
		{pt(5, 0), pt(0, 5), 1, false},
		{pt(5, 0), pt(0, 5), 2, true},
		// Just at the limit, and just beyond it.
		{pt(2, 0), pt(-1, 9), 2, true},
		{pt(3, 0), pt(-2, 9), 2, false},
		{pt(3, 0), pt(-2, 9), 3, true},
		{pt(2048, 0), pt(-2047, 1), 63, false},
		{pt(2048, 0), pt(-2047, 1), 64, true},
		{pt(2048, 0), pt(-2047, 1), 65, true},
		{pt(2048, 0), pt(-2047, 1), math.MaxInt, true},
		// 65 would let these, but counts as 64.
		{pt(2049, 0), pt(-2048, 1), 64, false},
		{pt(2049, 0), pt(-2048, 1), 65, false},
		{pt(2049, 0), pt(-2048, 1), 1 << 32, false},
		{pt(2049, 0), pt(-2048, 1), math.MaxInt, false},
		// Back, and further back than u is long.
		{pt(5, 0), pt(-5, 0), 64, false},
		{pt(5, 0), pt(-9, 1), 64, false},
		// The zero vector: 0 is at most 0.
		{pt(0, 0), pt(3, 4), 1, true},
		{pt(0, 0), pt(0, 0), 64, true},
		{pt(0, 0), pt(0, 0), 0, false},
		{pt(3, 4), pt(0, 0), 1, false},
		{pt(3, 4), pt(0, 0), 2, true},
		// Limits that may not be.
		{pt(3, 4), pt(3, 4), 0, false},
		{pt(3, 4), pt(3, 4), -1, false},
		{pt(3, 4), pt(3, 4), -64, false},
		{pt(3, 4), pt(3, 4), math.MinInt, false},
		// Beyond 64 bits.
		{pt(far, far), pt(far, far), 64, true},
		{pt(far, far), pt(far, far), 8, true},
		{pt(far, far), pt(-far, -far), 64, false},
		{pt(far, 0), pt(-far, far), 64, false},
		{pt(1, 0), pt(-far, far), 64, false},
	} {
		if got := sign.Miter(x.u, x.v, x.limit); got != x.want {
			t.Error(x, got)
		}
	}
	limits := []int{math.MinInt, -1 << 32, -65, -2, -1, 0, 1, 2, 3, 4, 7, 16, 63, 64, 65, 66, 1000, 1 << 31, 1 << 32, math.MaxInt - 1, math.MaxInt}
	for _, l := range [][]api.Pt{grid(4), wild()} {
		for _, u := range l {
			for _, v := range l {
				for _, limit := range limits {
					if got := sign.Miter(u, v, limit); got != miter(u, v, limit) {
						t.Error(u, v, limit, got)
					}
				}
			}
		}
	}
}

// P5.3: Quarter.
func TestQuarter(t *testing.T) {
	for _, x := range []struct {
		v    api.Pt
		want int
	}{
		{pt(0, 0), 0},
		{pt(1, 0), 0}, {pt(1, 1), 0}, {pt(1, 9), 0}, {pt(far, 0), 0}, {pt(1, far), 0},
		{pt(0, 1), 1}, {pt(-1, 1), 1}, {pt(-9, 1), 1}, {pt(0, far), 1}, {pt(-far, 1), 1},
		{pt(-1, 0), 2}, {pt(-1, -1), 2}, {pt(-1, -9), 2}, {pt(-far, 0), 2}, {pt(-1, -far), 2},
		{pt(0, -1), 3}, {pt(1, -1), 3}, {pt(9, -1), 3}, {pt(0, -far), 3}, {pt(far, -1), 3},
		{pt(far, far), 0}, {pt(-far, far), 1}, {pt(-far, -far), 2}, {pt(far, -far), 3},
	} {
		if got := sign.Quarter(x.v); got != x.want {
			t.Error(x, got)
		}
	}
}

// round are vectors by rising angle, those of one row with the same one.
func round() [][]api.Pt {
	return [][]api.Pt{
		{pt(1, 0), pt(5, 0), pt(far, 0)},
		{pt(far, 1)},
		{pt(3, 1), pt(6, 2)},
		{pt(far, far-1)},
		{pt(1, 1), pt(7, 7), pt(far, far)},
		{pt(far-1, far)},
		{pt(far-2, far-1)},
		{pt(1, 3), pt(2, 6)},
		{pt(0, 1), pt(0, far)},
		{pt(-1, 2), pt(-5, 10)},
		{pt(-far, far)},
		{pt(-far, 1)},
		{pt(-1, 0), pt(-far, 0)},
		{pt(-far, -1)},
		{pt(-7, -7), pt(-far, -far)},
		{pt(1-far, -far)},
		{pt(0, -1), pt(0, -far)},
		{pt(1, -far)},
		{pt(far, -far), pt(1, -1)},
		{pt(2, -1), pt(10, -5)},
		{pt(far, -1)},
	}
}

// P5.3: Before.
func TestBefore(t *testing.T) {
	for i, us := range round() {
		for k, vs := range round() {
			for _, u := range us {
				for _, v := range vs {
					if got := sign.Before(u, v); got != (i < k) {
						t.Error(u, v, got)
					}
				}
			}
		}
	}
	// The zero vector is of quarter 0: neither before those of it, nor behind.
	zero := pt(0, 0)
	for _, v := range wild() {
		if got := sign.Before(zero, v); got != (sign.Quarter(v) > 0) {
			t.Error(zero, v, got)
		}
		if sign.Before(v, zero) {
			t.Error(v, zero)
		}
	}
}

// P5.4: what follows.
func TestSideInTurn(t *testing.T) {
	for _, l := range [][]api.Pt{grid(2), wild()} {
		for _, a := range l {
			for _, b := range l {
				for _, p := range l {
					s := sign.Side(a, b, p)
					if sign.Side(b, p, a) != s || sign.Side(p, a, b) != s {
						t.Error("in turn", a, b, p)
					}
					if sign.Side(b, a, p) != -s || sign.Side(a, p, b) != -s || sign.Side(p, b, a) != -s {
						t.Error("changed", a, b, p)
					}
				}
			}
		}
	}
}
