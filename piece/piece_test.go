package piece_test

import (
	"math"
	"math/big"
	"slices"
	"testing"

	"ductus/api"
	"ductus/piece"
	"ductus/sign"
)

const far = 1 << 30

func pt(x, y int) api.Pt { return api.Pt{X: x, Y: y} }

// grid are all points whose X and Y are no further from 0 than n.
func grid(n int) []api.Pt {
	var l []api.Pt
	for x := -n; x <= n; x++ {
		for y := -n; y <= n; y++ {
			l = append(l, pt(x, y))
		}
	}
	return l
}

// wild are near points of all quarters, the corners of all that is near among
// them, and some that lie nearly, or just, on a line with others.
func wild() []api.Pt {
	return []api.Pt{
		{}, pt(-3, 4), pt(1<<20, -1<<21),
		pt(far, far), pt(-far, far), pt(far, -far), pt(-far, -far), pt(far, 0), pt(-far, 1),
		pt(far, far-1), pt(far-1, far-2), pt(1-far, 1-far), pt(far/2, far/2),
	}
}

// tuples calls f with all lists of n of these points; f must not keep them.
func tuples(n int, of []api.Pt, f func(p piece.Piece)) {
	p := make(piece.Piece, n)
	var fill func(i int)
	fill = func(i int) {
		if i == n {
			f(p)
			return
		}
		for _, q := range of {
			p[i] = q
			fill(i + 1)
		}
	}
	fill(0)
}

// sixteen goes round to its left, with a corner amid each of eight sides.
func sixteen() piece.Piece {
	return piece.Piece{
		pt(4, 0), pt(8, 0), pt(12, 0), pt(14, 2), pt(16, 4), pt(16, 8), pt(16, 12), pt(14, 14),
		pt(12, 16), pt(8, 16), pt(4, 16), pt(2, 14), pt(0, 12), pt(0, 8), pt(0, 4), pt(2, 2),
	}
}

// wheel has 16 corners that lie on no line with others, as far out as they may.
func wheel() piece.Piece {
	quarter := []api.Pt{pt(far, 0), pt(992008094, 410903207), pt(759250125, 759250125), pt(410903207, 992008094)}
	var p piece.Piece
	for range 4 {
		p = append(p, quarter...)
		for i, q := range quarter {
			quarter[i] = pt(-q.Y, q.X)
		}
	}
	return p
}

// times is p, over and over.
func times(n int, p ...api.Pt) piece.Piece {
	return piece.Piece(slices.Repeat(p, n))
}

func product(a, b int) *big.Int {
	return new(big.Int).Mul(big.NewInt(int64(a)), big.NewInt(int64(b)))
}

// round is n, gone round at 2^64.
func round(n *big.Int) int {
	low := new(big.Int).And(n, new(big.Int).SetUint64(math.MaxUint64))
	return int(low.Uint64())
}

// area is what P6.1 says of Area, in numbers of any size till the end.
func area(p piece.Piece) int {
	sum := new(big.Int)
	for i, a := range p {
		b := p[0]
		if i+1 < len(p) {
			b = p[i+1]
		}
		sum.Add(sum, product(a.X, b.Y))
		sum.Sub(sum, product(a.Y, b.X))
	}
	return round(sum)
}

// side is the sign of the exact Cross of b less a, and q less a.
func side(a, b, q api.Pt) int {
	return product(b.X-a.X, q.Y-a.Y).Cmp(product(b.Y-a.Y, q.X-a.X))
}

// convex is what P6.2 says of Convex.
func convex(p piece.Piece) bool {
	if len(p) < 3 || area(p) <= 0 {
		return false
	}
	for i, a := range p {
		b := p[(i+1)%len(p)]
		for _, q := range p {
			if side(a, b, q) < 0 {
				return false
			}
		}
	}
	return true
}

// covers tells whether a triangle of the first corner and a side has q.
func covers(p piece.Piece, q api.Pt) bool {
	for i := 1; i+1 < len(p); i++ {
		if sign.Within(p[0], p[i], p[i+1], q) {
			return true
		}
	}
	return false
}

func reversed(p piece.Piece) piece.Piece {
	var l piece.Piece
	for _, q := range p {
		l = append(piece.Piece{q}, l...)
	}
	return l
}

func same(a, b []piece.Piece) bool {
	return slices.EqualFunc(a, b, func(p, q piece.Piece) bool { return slices.Equal(p, q) })
}

// shapes are pieces with what the promises say of them.
func shapes() []shape {
	return []shape{
		{"nothing", nil, 0, false},
		{"no corner", piece.Piece{}, 0, false},
		{"one corner", piece.Piece{pt(3, 4)}, 0, false},
		{"two corners", piece.Piece{pt(3, 4), pt(7, -2)}, 0, false},
		{"a triangle", piece.Piece{pt(0, 0), pt(2, 0), pt(0, 2)}, 4, true},
		{"a triangle away from 0", piece.Piece{pt(100, 50), pt(102, 50), pt(100, 52)}, 4, true},
		{"to the right", piece.Piece{pt(0, 0), pt(0, 2), pt(2, 0)}, -4, false},
		{"on a line", piece.Piece{pt(0, 0), pt(1, 1), pt(3, 3)}, 0, false},
		{"one point thrice", times(3, pt(5, 5)), 0, false},
		{"the least area", piece.Piece{pt(0, 0), pt(1, 0), pt(0, 1)}, 1, true},
		{"a square", piece.Piece{pt(0, 0), pt(4, 0), pt(4, 4), pt(0, 4)}, 32, true},
		{"a corner amid a side", piece.Piece{pt(0, 0), pt(2, 0), pt(4, 0), pt(4, 4), pt(0, 4)}, 32, true},
		{"a corner twice", piece.Piece{pt(0, 0), pt(4, 0), pt(4, 0), pt(4, 4), pt(0, 4)}, 32, true},
		{"the first corner twice", piece.Piece{pt(0, 0), pt(4, 0), pt(4, 4), pt(0, 4), pt(0, 0)}, 32, true},
		{"there and back on a side", piece.Piece{pt(0, 0), pt(4, 0), pt(2, 0), pt(4, 4), pt(0, 4)}, 24, false},
		{"a notch", piece.Piece{pt(0, 0), pt(4, 0), pt(4, 4), pt(2, 3), pt(0, 4)}, 28, false},
		{"a notch in the last side", piece.Piece{pt(0, 0), pt(4, 0), pt(4, 4), pt(0, 4), pt(1, 2)}, 28, false},
		{"a notch at the first corner", piece.Piece{pt(2, 1), pt(4, 0), pt(4, 4), pt(0, 4), pt(0, 0)}, 28, false},
		{"a bow", piece.Piece{pt(0, 0), pt(4, 0), pt(0, 4), pt(4, 4)}, 0, false},
		{"a bow with an area", piece.Piece{pt(0, 0), pt(6, 0), pt(1, 4), pt(3, 4)}, 16, false},
		{"a star", piece.Piece{pt(0, -10), pt(6, 8), pt(-9, -3), pt(9, -3), pt(-6, 8)}, 282, false},
		{"twice round", times(2, pt(0, 0), pt(2, 0), pt(0, 2)), 8, true},
		{"sixteen corners", sixteen(), 448, true},
		{"sixteen to the right", reversed(sixteen()), -448, false},
		{"a wheel", wheel(), 7059263336515923544, true},
		{"near a line", piece.Piece{pt(-far, -far), pt(far, far-1), pt(far, far)}, 1 << 31, true},
		{"by one behind a line", piece.Piece{pt(-far, -far), pt(far-1, far-2), pt(far, far-1)}, 1, true},
		{"by one ahead of a line", piece.Piece{pt(-far, -far), pt(far, far-1), pt(far-1, far-2)}, -1, false},
		{"half of all", piece.Piece{pt(-far, -far), pt(far, -far), pt(far, far)}, 1 << 62, true},
		{"nearly all", piece.Piece{pt(-far, -far), pt(far, -far), pt(far, far), pt(-far, far-1)}, 1<<63 - 1<<31, true},
		// What goes round at 2^64.
		{"all", piece.Piece{pt(-far, -far), pt(far, -far), pt(far, far), pt(-far, far)}, math.MinInt, false},
		{"all, to the right", piece.Piece{pt(-far, -far), pt(-far, far), pt(far, far), pt(far, -far)}, math.MinInt, false},
		{"all, twice", times(2, pt(-far, -far), pt(far, -far), pt(far, far), pt(-far, far)), 0, false},
		{"half of all, thrice", times(3, pt(-far, -far), pt(far, -far), pt(far, far)), -1 << 62, false},
		{"half of all, five times", times(5, pt(-far, -far), pt(far, -far), pt(far, far)), 1 << 62, true},
	}
}

type shape struct {
	name   string
	p      piece.Piece
	area   int
	convex bool
}

// P6.1: Area.
func TestArea(t *testing.T) {
	for _, x := range shapes() {
		if got := piece.Area(x.p); got != x.area {
			t.Error(x.name, got)
		}
		if want := area(x.p); x.area != want {
			t.Error(x.name, "is", want)
		}
	}
	for n := range 5 {
		tuples(n, grid(1), func(p piece.Piece) {
			if got := piece.Area(p); got != area(p) {
				t.Error(p, got)
			}
		})
	}
	tuples(4, wild(), func(p piece.Piece) {
		if got := piece.Area(p); got != area(p) {
			t.Error(p, got)
		}
	})
}

// P6.1: Box.
func TestBox(t *testing.T) {
	for _, x := range []struct {
		p         piece.Piece
		low, high api.Pt
	}{
		{nil, api.Pt{}, api.Pt{}},
		{piece.Piece{}, api.Pt{}, api.Pt{}},
		{piece.Piece{pt(3, -4)}, pt(3, -4), pt(3, -4)},
		{piece.Piece{pt(3, 4), pt(7, -2)}, pt(3, -2), pt(7, 4)},
		{piece.Piece{pt(7, -2), pt(3, 4)}, pt(3, -2), pt(7, 4)},
		// None of these have 0 in their boxes.
		{piece.Piece{pt(5, 9), pt(6, 8), pt(7, 10)}, pt(5, 8), pt(7, 10)},
		{piece.Piece{pt(-5, -9), pt(-6, -8), pt(-7, -10)}, pt(-7, -10), pt(-5, -8)},
		// Convex or not.
		{piece.Piece{pt(0, 0), pt(4, 0), pt(0, 4), pt(4, 4)}, pt(0, 0), pt(4, 4)},
		{sixteen(), pt(0, 0), pt(16, 16)},
		{wheel(), pt(-far, -far), pt(far, far)},
		{piece.Piece{pt(-far, far), pt(far, -far)}, pt(-far, -far), pt(far, far)},
	} {
		if low, high := piece.Box(x.p); low != x.low || high != x.high {
			t.Error(x.p, low, high)
		}
	}
	for _, l := range [][]api.Pt{grid(1), wild()} {
		tuples(3, l, func(p piece.Piece) {
			xs, ys := []int{p[0].X, p[1].X, p[2].X}, []int{p[0].Y, p[1].Y, p[2].Y}
			slices.Sort(xs)
			slices.Sort(ys)
			if low, high := piece.Box(p); low != pt(xs[0], ys[0]) || high != pt(xs[2], ys[2]) {
				t.Error(p, low, high)
			}
		})
	}
}

// P6.1: Shift.
func TestShift(t *testing.T) {
	for _, x := range []struct {
		p    piece.Piece
		by   api.Pt
		want piece.Piece
	}{
		{nil, pt(5, 6), nil},
		{piece.Piece{}, pt(5, 6), nil},
		{piece.Piece{pt(3, 4)}, pt(5, -6), piece.Piece{pt(8, -2)}},
		{piece.Piece{pt(0, 0), pt(2, 0), pt(0, 2)}, pt(-1, 10), piece.Piece{pt(-1, 10), pt(1, 10), pt(-1, 12)}},
		{piece.Piece{pt(0, 0), pt(2, 0), pt(0, 2)}, pt(0, 0), piece.Piece{pt(0, 0), pt(2, 0), pt(0, 2)}},
		// Not convex, and corners that are alike.
		{piece.Piece{pt(0, 0), pt(0, 2), pt(2, 0), pt(2, 0)}, pt(1, 1), piece.Piece{pt(1, 1), pt(1, 3), pt(3, 1), pt(3, 1)}},
		{piece.Piece{pt(far, -far)}, pt(far, -far), piece.Piece{pt(2*far, -2*far)}},
		{piece.Piece{pt(-far, far)}, pt(far, -far), piece.Piece{pt(0, 0)}},
	} {
		if got := piece.Shift(x.p, x.by); !slices.Equal(got, x.want) {
			t.Error(x, got)
		}
	}
	by := pt(-1000, 777)
	shifted := piece.Shift(sixteen(), by)
	for i, q := range sixteen() {
		if shifted[i] != pt(q.X+by.X, q.Y+by.Y) {
			t.Error(i, shifted[i])
		}
	}
	if len(shifted) != 16 || piece.Area(shifted) != 448 || !piece.Convex(shifted) {
		t.Error("a piece that is shifted is not the same", shifted)
	}
}

// P6.2: Convex.
func TestConvex(t *testing.T) {
	for _, x := range shapes() {
		if piece.Convex(x.p) != x.convex {
			t.Error(x.name)
		}
		if convex(x.p) != x.convex {
			t.Error(x.name, "is the other way")
		}
		// Whichever corner is the first one.
		p := slices.Clone(x.p)
		for range p {
			p = append(p[1:], p[0])
			if piece.Convex(p) != x.convex {
				t.Error(x.name, p)
			}
		}
	}
	for n := range 6 {
		tuples(n, grid(1), func(p piece.Piece) {
			if got := piece.Convex(p); got != convex(p) {
				t.Error(p, got)
			}
		})
	}
	tuples(4, wild(), func(p piece.Piece) {
		if got := piece.Convex(p); got != convex(p) {
			t.Error(p, got)
		}
	})
}

// P6.3: Has.
func TestHas(t *testing.T) {
	square := piece.Piece{pt(0, 0), pt(4, 0), pt(4, 4), pt(0, 4)}
	for _, x := range []struct {
		q    api.Pt
		want bool
	}{
		{pt(1, 1), true}, {pt(0, 0), true}, {pt(4, 4), true}, {pt(4, 2), true}, {pt(2, 0), true}, {pt(0, 3), true},
		{pt(5, 2), false}, {pt(-1, 2), false}, {pt(2, -1), false}, {pt(2, 5), false},
		// On a side's line, but beyond its ends.
		{pt(5, 0), false}, {pt(-1, 0), false}, {pt(4, 5), false}, {pt(0, -1), false},
		{pt(far, far), false}, {pt(-far, 0), false},
	} {
		if piece.Has(square, x.q) != x.want {
			t.Error(x)
		}
		if piece.Has(reversed(square), x.q) {
			t.Error("to the right", x)
		}
	}
	for _, x := range shapes() {
		for _, q := range append(wild(), x.p...) {
			if got := piece.Has(x.p, q); got != (x.convex && covers(x.p, q)) {
				t.Error(x.name, q, got)
			}
		}
	}
	all := piece.Piece{pt(-far, -far), pt(far, -far), pt(far, far), pt(-far, far-1)}
	if !piece.Has(all, pt(0, 0)) || !piece.Has(all, pt(-far, far-1)) || piece.Has(all, pt(-far, far)) || piece.Has(all, pt(far-1, far)) {
		t.Error("a great piece")
	}
}

// P6.3: Has, of all small pieces, and of great ones.
func TestHasOfMany(t *testing.T) {
	for n := range 5 {
		tuples(n, grid(1), func(p piece.Piece) {
			for _, q := range grid(2) {
				if got := piece.Has(p, q); got != (convex(p) && covers(p, q)) {
					t.Error(p, q, got)
				}
			}
		})
	}
	tuples(3, wild(), func(p piece.Piece) {
		for _, q := range wild() {
			if got := piece.Has(p, q); got != (convex(p) && covers(p, q)) {
				t.Error(p, q, got)
			}
		}
	})
}

// put is what P6.4 says of Put.
func put(l []piece.Piece, p piece.Piece) []piece.Piece {
	if convex(p) {
		return append(slices.Clone(l), p)
	}
	if convex(reversed(p)) {
		return append(slices.Clone(l), reversed(p))
	}
	return l
}

// lists are what pieces are put behind: none, some, and some that are not
// convex, which stay as they are all the same.
func lists() [][]piece.Piece {
	triangle := piece.Piece{pt(0, 0), pt(2, 0), pt(0, 2)}
	return [][]piece.Piece{
		nil,
		{},
		{triangle},
		{sixteen(), triangle, wheel()},
		{reversed(triangle), nil, {pt(5, 5)}, {pt(0, 0), pt(4, 0), pt(0, 4), pt(4, 4)}, triangle, triangle},
	}
}

// P6.4: Put.
func TestPut(t *testing.T) {
	for _, l := range lists() {
		for _, x := range shapes() {
			want := l
			switch back := reversed(x.p); {
			case x.convex:
				want = append(slices.Clone(l), x.p)
			case convex(back):
				want = append(slices.Clone(l), back)
			}
			if got := piece.Put(l, x.p...); !same(got, want) {
				t.Error(x.name, len(l), got)
			}
		}
		if got := piece.Put(l); !same(got, l) {
			t.Error("no corner", len(l), got)
		}
		if got := piece.Put(l, pt(1, 2)); !same(got, l) {
			t.Error("one corner", len(l), got)
		}
	}
	got := piece.Put(nil, pt(7, 0), pt(7, 5), pt(9, 0))
	if !same(got, []piece.Piece{{pt(9, 0), pt(7, 5), pt(7, 0)}}) {
		t.Error("the other order", got)
	}
	for n := range 5 {
		tuples(n, grid(1), func(p piece.Piece) {
			if got := piece.Put(nil, p...); !same(got, put(nil, p)) {
				t.Error(p, got)
			}
		})
	}
	tuples(3, wild(), func(p piece.Piece) {
		if got := piece.Put(nil, p...); !same(got, put(nil, p)) {
			t.Error(p, got)
		}
	})
}

// P6.4, R4: Put changes nothing that it is given, and shares nothing with it.
func TestPutIsNew(t *testing.T) {
	for _, corners := range []piece.Piece{
		sixteen(), reversed(sixteen()), {pt(0, 0), pt(4, 0), pt(0, 4), pt(4, 4)}, nil,
	} {
		for _, l := range lists() {
			given := make([]piece.Piece, 0, len(l)+3)
			for _, p := range l {
				given = append(given, append(make(piece.Piece, 0, len(p)+3), p...))
			}
			behind := given[:len(given)+1]
			p := slices.Clone(corners)
			got := piece.Put(given, p...)
			if !same(given, l) || behind[len(l)] != nil || !slices.Equal(p, corners) {
				t.Error("what was given is changed", given, p)
			}
			if !same(got, put(l, corners)) {
				t.Error(corners, got)
			}
			for i := range got {
				for k := range got[i] {
					got[i][k] = pt(-77, 77)
				}
				got[i] = append(got[i], pt(1, 1))
			}
			_ = append(got, piece.Piece{pt(3, 3)})
			if !same(given, l) || behind[len(l)] != nil || !slices.Equal(p, corners) {
				t.Error("what was given is shared", given, p)
			}
		}
	}
}

// R4: no two pieces of an answer share what they are made of, even if those
// that were handed in do.
func TestPutSharesNothing(t *testing.T) {
	p := piece.Piece{pt(0, 0), pt(2, 0), pt(0, 2)}
	got := piece.Put([]piece.Piece{p, p, p[:2]}, p...)
	if len(got) != 4 {
		t.Fatal(got)
	}
	for i := range got {
		got[i][0] = pt(i, 9)
		_ = append(got[i], pt(8, 8))
	}
	for i := range got {
		if got[i][0] != pt(i, 9) || got[i][1] != pt(2, 0) {
			t.Error(i, got)
		}
	}
	if !slices.Equal(got[3], piece.Piece{pt(3, 9), pt(2, 0), pt(0, 2)}) || p[0] != pt(0, 0) {
		t.Error(got, p)
	}
	one := piece.Put(nil, p...)
	two := piece.Put(one, p...)
	one[0][0] = pt(6, 6)
	if two[0][0] != pt(0, 0) || two[1][0] != pt(0, 0) {
		t.Error("an answer changes with another one", two)
	}
}

// R4: the other calls change nothing, and Shift's answer is new.
func TestNothingIsChanged(t *testing.T) {
	for _, x := range shapes() {
		p := slices.Clone(x.p)
		piece.Area(p)
		piece.Convex(p)
		piece.Has(p, pt(1, 1))
		piece.Box(p)
		shifted := piece.Shift(p, pt(0, 0))
		if !slices.Equal(p, x.p) {
			t.Error(x.name, p)
		}
		for i := range shifted {
			shifted[i] = pt(-77, 77)
		}
		if !slices.Equal(p, x.p) {
			t.Error(x.name, "is shared", p)
		}
	}
}

// P6.5: what follows. What is put is convex; it has all its corners.
func TestWhatIsPut(t *testing.T) {
	check := func(p piece.Piece) {
		for _, got := range piece.Put(nil, p...) {
			if !piece.Convex(got) || len(got) != len(p) {
				t.Error(p, got)
			}
			for _, q := range p {
				if !piece.Has(got, q) {
					t.Error(p, got, q)
				}
			}
		}
	}
	for n := range 6 {
		tuples(n, grid(1), check)
	}
	tuples(4, wild(), check)
	for _, x := range shapes() {
		check(x.p)
		check(reversed(x.p))
	}
}
