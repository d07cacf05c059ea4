package bezier_test

import (
	"math/big"
	"testing"

	"ductus/api"
	"ductus/bezier"
	"ductus/path"
)

const coord = 1 << 28

func pt(x, y int) api.Pt { return api.Pt{X: x, Y: y} }

// seg is the segment of these points.
func seg(pts ...api.Pt) path.Seg {
	s := path.Seg{N: len(pts)}
	copy(s.P[:], pts)
	return s
}

// level is the segment whose points have these as X; as Y the same ones, in the
// other order and with the other sign.
func level(xs ...int) path.Seg {
	s := path.Seg{N: len(xs)}
	for i, x := range xs {
		s.P[i] = pt(x, -xs[len(xs)-1-i])
	}
	return s
}

// segs calls f with all segments whose points have such numbers as X.
func segs(numbers []int, f func(s path.Seg)) {
	var grow func(xs []int)
	grow = func(xs []int) {
		if len(xs) > 1 {
			f(level(xs...))
		}
		if len(xs) == 4 {
			return
		}
		for _, x := range numbers {
			grow(append(xs[:len(xs):len(xs)], x))
		}
	}
	grow(nil)
}

var (
	small = []int{-7, -2, -1, 0, 1, 3, 10}
	great = []int{-coord, -coord + 1, -5, 0, 2, coord - 1, coord}
	steps = [][2]int{{0, 0}, {0, 1}, {1, 1}, {1, 2}, {1, 3}, {2, 3}, {3, 7}, {7, 7}, {0, 9}, {1, coord}, {coord / 2, coord}, {coord - 1, coord}, {coord, coord}}
)

// floor is a through b, b above 0, rounded down.
func floor(a, b *big.Int) int {
	q, _ := new(big.Int).DivMod(a, b, new(big.Int))
	return int(q.Int64())
}

// share is k of n shares of x, to the nearest, the greater one of two.
func share(x, k, n int) int {
	twice := new(big.Int).Mul(big.NewInt(int64(2*x)), big.NewInt(int64(k)))
	return floor(twice.Add(twice, big.NewInt(int64(n))), big.NewInt(int64(2*n)))
}

func along(a, b api.Pt, k, n int) api.Pt {
	return pt(a.X+share(b.X-a.X, k, n), a.Y+share(b.Y-a.Y, k, n))
}

func mid(a, b api.Pt) api.Pt {
	two := big.NewInt(2)
	return pt(floor(big.NewInt(int64(a.X+b.X)), two), floor(big.NewInt(int64(a.Y+b.Y)), two))
}

func length(a, b api.Pt) int {
	x, y := big.NewInt(int64(b.X-a.X)), big.NewInt(int64(b.Y-a.Y))
	sum := new(big.Int).Add(x.Mul(x, x), y.Mul(y, y))
	return int(sum.Sqrt(sum).Int64())
}

// narrow is the row of points that these give way to.
func narrow(l []api.Pt, way func(a, b api.Pt) api.Pt) []api.Pt {
	var next []api.Pt
	for i := range l[1:] {
		next = append(next, way(l[i], l[i+1]))
	}
	return next
}

func at(l []api.Pt, k, n int) api.Pt {
	if n == 0 || len(l) == 1 {
		return l[0]
	}
	return at(narrow(l, func(a, b api.Pt) api.Pt { return along(a, b, k, n) }), k, n)
}

func halves(s path.Seg) (path.Seg, path.Seg) {
	var first, second []api.Pt
	for l := s.P[:s.N]; len(l) > 0; l = narrow(l, mid) {
		first = append(first, l[0])
		second = append([]api.Pt{l[len(l)-1]}, second...)
	}
	return seg(first...), seg(second...)
}

func flat(s path.Seg, tol int) bool {
	for i := range s.N {
		even := along(s.P[0], s.P[s.N-1], i, s.N-1)
		x, y := s.P[i].X-even.X, s.P[i].Y-even.Y
		inner := i > 0 && i < s.N-1
		if inner && (x < -tol || x > tol || y < -tol || y > tol) {
			return false
		}
	}
	return true
}

// P9.1
func TestMid(t *testing.T) {
	for _, x := range []struct{ a, b, want api.Pt }{
		{pt(0, 0), pt(4, 10), pt(2, 5)},
		{pt(0, 0), pt(1, -1), pt(0, -1)},
		{pt(-3, 3), pt(0, 0), pt(-2, 1)},
		{pt(-1, 1), pt(-2, 2), pt(-2, 1)},
		{pt(7, -7), pt(7, -7), pt(7, -7)},
		{pt(1<<30, -1<<30), pt(1<<30, -1<<30), pt(1<<30, -1<<30)},
		{pt(1<<30, -1<<30), pt(1<<30-1, 1-1<<30), pt(1<<30-1, -1<<30)},
		{pt(1<<30, -1<<30), pt(-1<<30, 1<<30), pt(0, 0)},
	} {
		if q := bezier.Mid(x.a, x.b); q != x.want {
			t.Error(x.a, x.b, q)
		}
	}
	numbers := append([]int{-1 << 30, 1 - 1<<30, 1<<30 - 1, 1 << 30}, small...)
	for _, a := range numbers {
		for _, b := range numbers {
			p, q := pt(a, b), pt(b, 1)
			if bezier.Mid(p, q) != mid(p, q) {
				t.Error(p, q, bezier.Mid(p, q))
			}
		}
	}
}

// P9.1
func TestAt(t *testing.T) {
	line := seg(pt(0, 0), pt(10, -20))
	quad := seg(pt(0, 0), pt(4, 0), pt(4, 4))
	cubic := seg(pt(0, 0), pt(0, 8), pt(8, 8), pt(8, 0))
	for _, x := range []struct {
		s    path.Seg
		k, n int
		want api.Pt
	}{
		{line, 0, 5, pt(0, 0)}, {line, 1, 5, pt(2, -4)}, {line, 5, 5, pt(10, -20)}, {line, 0, 0, pt(0, 0)},
		{line, 1, 4, pt(3, -5)}, // 2.5 is as near to 2 as to 3
		{quad, 1, 2, pt(3, 1)}, {quad, 1, 4, pt(2, 0)}, {quad, 3, 4, pt(4, 2)}, {quad, 4, 4, pt(4, 4)},
		{cubic, 1, 2, pt(4, 6)}, {cubic, 0, 2, pt(0, 0)}, {cubic, 2, 2, pt(8, 0)},
		{seg(pt(9, 8), pt(1, 1), pt(2, 2)), 0, 0, pt(9, 8)},
		{seg(pt(5, 5), pt(5, 5), pt(5, 5), pt(5, 5)), 1, 3, pt(5, 5)},
		{seg(pt(-coord, coord), pt(coord, -coord)), coord, coord, pt(coord, -coord)},
		{seg(pt(-coord, coord), pt(coord, -coord)), coord / 2, coord, pt(0, 0)},
	} {
		if q := bezier.At(x.s, x.k, x.n); q != x.want {
			t.Error(x.s, x.k, x.n, q)
		}
	}
	for _, numbers := range [][]int{small, great} {
		segs(numbers, func(s path.Seg) {
			for _, x := range steps {
				if q, want := bezier.At(s, x[0], x[1]), at(s.P[:s.N], x[0], x[1]); q != want {
					t.Fatal(s, x, q, want)
				}
			}
		})
	}
}

// P9.2, and of what follows P9.5
func TestHalves(t *testing.T) {
	for _, x := range []struct{ s, first, second path.Seg }{
		{seg(pt(0, 0), pt(4, 0), pt(4, 4)), seg(pt(0, 0), pt(2, 0), pt(3, 1)), seg(pt(3, 1), pt(4, 2), pt(4, 4))},
		{seg(pt(0, 0), pt(5, -5)), seg(pt(0, 0), pt(2, -3)), seg(pt(2, -3), pt(5, -5))},
		{seg(pt(0, 0), pt(0, 8), pt(8, 8), pt(8, 0)), seg(pt(0, 0), pt(0, 4), pt(2, 6), pt(4, 6)), seg(pt(4, 6), pt(6, 6), pt(8, 4), pt(8, 0))},
		{seg(pt(1, 2), pt(1, 2), pt(1, 2)), seg(pt(1, 2), pt(1, 2), pt(1, 2)), seg(pt(1, 2), pt(1, 2), pt(1, 2))},
	} {
		if a, b := bezier.Halves(x.s); a != x.first || b != x.second {
			t.Error(x.s, a, b)
		}
	}
	for _, numbers := range [][]int{small, great} {
		segs(numbers, func(s path.Seg) {
			a, b := bezier.Halves(s)
			if first, second := halves(s); a != first || b != second {
				t.Fatal(s, a, b, first, second)
			}
			if a.P[0] != s.P[0] || path.End(b) != path.End(s) || path.End(a) != b.P[0] {
				t.Fatal(s, a, b)
			}
		})
	}
}

// P9.3
func TestLengths(t *testing.T) {
	for _, x := range []struct {
		s           path.Seg
		chord, legs int
	}{
		{seg(pt(1, 1), pt(4, 5)), 5, 5},
		{seg(pt(0, 0), pt(4, 0), pt(4, 4)), 5, 8},
		{seg(pt(0, 0), pt(1, 1), pt(2, 2), pt(3, 3)), 4, 3}, // 4.2, and three of 1.4
		{seg(pt(2, 2), pt(5, 6), pt(2, 2)), 0, 10},
		{seg(pt(7, 7), pt(7, 7), pt(7, 7), pt(7, 7)), 0, 0},
		{seg(pt(-coord, 0), pt(coord, 0), pt(-coord, 0), pt(coord, 0)), 2 * coord, 6 * coord},
		{seg(pt(-coord, -coord), pt(coord, coord)), 759250124, 759250124},
	} {
		if chord, legs := bezier.Chord(x.s), bezier.Legs(x.s); chord != x.chord || legs != x.legs {
			t.Error(x.s, chord, legs)
		}
	}
	for _, numbers := range [][]int{small, great} {
		segs(numbers, func(s path.Seg) {
			sum := 0
			for i := 1; i < s.N; i++ {
				sum += length(s.P[i-1], s.P[i])
			}
			if bezier.Chord(s) != length(s.P[0], s.P[s.N-1]) || bezier.Legs(s) != sum {
				t.Fatal(s, bezier.Chord(s), bezier.Legs(s))
			}
		})
	}
}

// P9.3
func TestFlat(t *testing.T) {
	for _, x := range []struct {
		s   path.Seg
		tol int // the least one that takes it
	}{
		{seg(pt(0, 0), pt(99, 99)), 0},
		{seg(pt(0, 0), pt(5, 5), pt(10, 10)), 0},
		{seg(pt(0, 0), pt(9, 5), pt(10, 10)), 4},
		{seg(pt(0, 0), pt(1, 5), pt(10, 10)), 4},
		{seg(pt(0, 0), pt(5, 9), pt(10, 10)), 4},
		{seg(pt(0, 0), pt(5, 1), pt(10, 10)), 4},
		{seg(pt(0, 0), pt(4, 4), pt(9, 9)), 1}, // 4.5 is as near to 4 as to 5
		{seg(pt(0, 0), pt(5, 5), pt(9, 9)), 0},
		{seg(pt(0, 0), pt(3, 3), pt(6, 6), pt(9, 9)), 0},
		{seg(pt(0, 0), pt(6, 6), pt(3, 3), pt(9, 9)), 3},
		{seg(pt(0, 0), pt(3, 3), pt(6, 8), pt(9, 9)), 2},
		{seg(pt(0, 0), pt(1, 3), pt(6, 6), pt(9, 9)), 2},
		{seg(pt(4, 4), pt(4, 4), pt(4, 4), pt(4, 4)), 0},
		{seg(pt(0, 0), pt(coord, -coord), pt(0, 0)), coord},
	} {
		if !bezier.Flat(x.s, x.tol) || !bezier.Flat(x.s, coord) || x.tol > 0 && bezier.Flat(x.s, x.tol-1) {
			t.Error(x.s, x.tol)
		}
	}
	if bezier.Flat(seg(pt(-coord, 0), pt(coord, 0), pt(-coord, 0)), coord) {
		t.Error("a point 2^29 off is taken")
	}
	for _, numbers := range [][]int{small, great} {
		segs(numbers, func(s path.Seg) {
			for _, tol := range []int{0, 1, 2, 3, 4, 5, 8, 13, coord / 3, coord/3 + 1, coord - 1, coord} {
				if bezier.Flat(s, tol) != flat(s, tol) {
					t.Fatal(s, tol, bezier.Flat(s, tol))
				}
			}
		})
	}
}

// P9.4
func TestBack(t *testing.T) {
	a, b, c, d := pt(1, 2), pt(3, -4), pt(-coord, coord), pt(0, 0)
	for _, x := range []struct{ s, want path.Seg }{
		{seg(a, b), seg(b, a)},
		{seg(a, b, c), seg(c, b, a)},
		{seg(a, b, c, d), seg(d, c, b, a)},
		{seg(d, a), seg(a, d)},
		{seg(a, a, a), seg(a, a, a)},
	} {
		if s := bezier.Back(x.s); s != x.want || bezier.Back(s) != x.s {
			t.Error(x.s, s)
		}
	}
}

// R1, R7: nothing is said of other N, and of other points behind the first N;
// still no call panics, and nothing lies behind the points that are told.
func TestOthers(t *testing.T) {
	for n := -2; n < 9; n++ {
		s := path.Seg{P: [4]api.Pt{pt(1, 2), pt(3, 4), pt(5, 7), pt(8, 8)}, N: n}
		first, second := bezier.Halves(s)
		for _, q := range []path.Seg{first, second, bezier.Back(s)} {
			for i := max(2, min(q.N, 4)); i < 4; i++ {
				if q.P[i] != pt(0, 0) {
					t.Error(n, q)
				}
			}
		}
		bezier.At(s, 1, 2)
		bezier.At(s, 1, -2)
		bezier.Chord(s)
		bezier.Legs(s)
		bezier.Flat(s, -1)
	}
}
