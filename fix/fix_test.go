package fix_test

import (
	"math"
	"math/big"
	"strings"
	"testing"

	"ductus/api"
	"ductus/fix"
)

const most = 1 << 40

// numbers are those about each power of two, above 0 and below it.
func numbers() []int {
	l := []int{0, 1000000007, -998244353, math.MinInt, math.MinInt + 1, math.MaxInt}
	for n := range 21 {
		l = append(l, n, -n)
	}
	for k := 5; k < 63; k++ {
		for d := -1; d <= 1; d++ {
			l = append(l, 1<<k+d, -(1<<k + d))
		}
	}
	return l
}

// few are some numbers, the ends and those about 0 among them.
func few() []int {
	return []int{
		math.MinInt, math.MinInt + 1, -1 << 62, -1<<40 - 1, -1 << 32, -1000003, -256, -7, -3, -2, -1,
		0, 1, 2, 3, 5, 7, 255, 256, 1000003, 1 << 31, 1 << 32, 1<<40 + 1, 1 << 62, math.MaxInt - 1, math.MaxInt,
	}
}

// down is n divided by c, rounded down: c is above 0.
func down(n, c *big.Int) *big.Int {
	q, _ := new(big.Int).DivMod(n, c, new(big.Int))
	return q
}

// nearest is twice n, and c, divided by twice c: n divided by c, and a half, rounded down.
func nearest(n, c *big.Int) *big.Int {
	twice := new(big.Int).Lsh(n, 1)
	return down(twice.Add(twice, c), new(big.Int).Lsh(c, 1))
}

// want is what a quotient answers: ErrArg, unless c is above 0, and ErrFull, if it does not fit.
func want(n *big.Int, c int, divide func(n, c *big.Int) *big.Int) (int, api.Errno) {
	if c <= 0 {
		return 0, api.ErrArg
	}
	q := divide(n, big.NewInt(int64(c)))
	if !q.IsInt64() {
		return 0, api.ErrFull
	}
	return int(q.Int64()), api.OK
}

func product(a, b int) *big.Int {
	return new(big.Int).Mul(big.NewInt(int64(a)), big.NewInt(int64(b)))
}

// P3.1
func TestFloorAndRound(t *testing.T) {
	for _, x := range []struct{ a, b, floor, round int }{
		{0, 1, 0, 0}, {7, 2, 3, 4}, {-7, 2, -4, -3}, {1, 2, 0, 1}, {-1, 2, -1, 0}, {3, 2, 1, 2}, {-3, 2, -2, -1},
		{1, 3, 0, 0}, {2, 3, 0, 1}, {-1, 3, -1, 0}, {-2, 3, -1, -1}, {9, 3, 3, 3}, {-9, 3, -3, -3},
		{5, 4, 1, 1}, {6, 4, 1, 2}, {7, 4, 1, 2}, {-5, 4, -2, -1}, {-6, 4, -2, -1}, {-7, 4, -2, -2},
		{math.MaxInt, 1, math.MaxInt, math.MaxInt}, {math.MinInt, 1, math.MinInt, math.MinInt},
		{math.MaxInt, 2, 1<<62 - 1, 1 << 62}, {math.MinInt, 2, -1 << 62, -1 << 62}, {math.MinInt + 1, 2, -1 << 62, -1<<62 + 1},
		{math.MaxInt, math.MaxInt, 1, 1}, {math.MinInt, math.MaxInt, -2, -1}, {1 << 62, math.MaxInt, 0, 1}, {1<<62 - 1, math.MaxInt, 0, 0},
		{-1 << 62, math.MaxInt, -1, -1}, {-1<<62 + 1, math.MaxInt, -1, 0}, {1, math.MaxInt, 0, 0}, {-1, math.MaxInt, -1, 0},
	} {
		if n, e := fix.Floor(x.a, x.b); n != x.floor || e != api.OK {
			t.Error("Floor", x, n, e)
		}
		if n, e := fix.Round(x.a, x.b); n != x.round || e != api.OK {
			t.Error("Round", x, n, e)
		}
	}
}

// P3.1
func TestFloorAndRoundOfMany(t *testing.T) {
	for _, a := range numbers() {
		for _, b := range numbers() {
			n, e := fix.Floor(a, b)
			if q, f := want(big.NewInt(int64(a)), b, down); n != q || e != f {
				t.Fatal("Floor", a, b, n, e, q, f)
			}
			n, e = fix.Round(a, b)
			if q, f := want(big.NewInt(int64(a)), b, nearest); n != q || e != f {
				t.Fatal("Round", a, b, n, e, q, f)
			}
		}
	}
}

// P3.1, P3.2
func TestDivisorsThatAreNotAbove0(t *testing.T) {
	for _, c := range []int{0, -1, -2, -256, math.MinInt + 1, math.MinInt} {
		for _, a := range few() {
			if n, e := fix.Floor(a, c); n != 0 || e != api.ErrArg {
				t.Error("Floor", a, c, n, e)
			}
			if n, e := fix.Round(a, c); n != 0 || e != api.ErrArg {
				t.Error("Round", a, c, n, e)
			}
			if n, e := fix.Scale(a, a, c); n != 0 || e != api.ErrArg {
				t.Error("Scale", a, c, n, e)
			}
			if n, e := fix.Near(a, a, c); n != 0 || e != api.ErrArg {
				t.Error("Near", a, c, n, e)
			}
		}
	}
}

// P3.2
func TestScaleAndNear(t *testing.T) {
	for _, x := range []struct {
		a, b, c, scale int
		full           api.Errno
		near           int
		nearFull       api.Errno
	}{
		{7, 3, 2, 10, 0, 11, 0}, {-7, 3, 2, -11, 0, -10, 0}, {7, -3, 2, -11, 0, -10, 0}, {-7, -3, 2, 10, 0, 11, 0},
		{0, math.MinInt, 1, 0, 0, 0, 0}, {5, 5, 3, 8, 0, 8, 0}, {-5, 5, 3, -9, 0, -8, 0},
		{math.MaxInt, math.MaxInt, math.MaxInt, math.MaxInt, 0, math.MaxInt, 0},
		{math.MinInt, math.MaxInt, math.MaxInt, math.MinInt, 0, math.MinInt, 0},
		{math.MaxInt, 2, 1, 0, api.ErrFull, 0, api.ErrFull}, {math.MinInt, 2, 1, 0, api.ErrFull, 0, api.ErrFull},
		{math.MinInt, -1, 1, 0, api.ErrFull, 0, api.ErrFull}, {math.MinInt, math.MinInt, math.MaxInt, 0, api.ErrFull, 0, api.ErrFull},
		{1 << 62, 2, 1, 0, api.ErrFull, 0, api.ErrFull}, {-1 << 62, 2, 1, math.MinInt, 0, math.MinInt, 0},
	} {
		if n, e := fix.Scale(x.a, x.b, x.c); n != x.scale || e != x.full {
			t.Error("Scale", x, n, e)
		}
		if n, e := fix.Near(x.a, x.b, x.c); n != x.near || e != x.nearFull {
			t.Error("Near", x, n, e)
		}
	}
}

// P3.2: the last numbers that fit are told, the next ones are not, by either rounding.
func TestScaleAndNearAboutTheEnds(t *testing.T) {
	for _, c := range []int{2, 3, 4, 5, 7, 10, 1<<31 - 1, 1 << 32} {
		for _, end := range []int{math.MinInt, math.MaxInt} {
			for d := -3; d <= 3; d++ {
				// The factors' product is about end times c, as near as c lets.
				a := end/c*c/2 + d
				for _, b := range []int{2 * c, 2*c + 1, 2*c - 1, -2 * c} {
					about(t, a, b, c)
				}
			}
		}
	}
	// 2^63 - 1/2 is 2^63 - 1, rounded down, but 2^63, as the nearest.
	// 2^64 - 1 is 3 times 6148914691236517205.
	if n, e := fix.Scale(6148914691236517205, 3, 2); n != math.MaxInt || e != api.OK {
		t.Error("Scale", n, e)
	}
	if n, e := fix.Near(6148914691236517205, 3, 2); n != 0 || e != api.ErrFull {
		t.Error("Near", n, e)
	}
	// -2^63 - 1/2 is -2^63 - 1, rounded down, but -2^63, as the nearest.
	// 2^64 + 1 is 274177 times 67280421310721.
	if n, e := fix.Scale(-67280421310721, 274177, 2); n != 0 || e != api.ErrFull {
		t.Error("Scale", n, e)
	}
	if n, e := fix.Near(-67280421310721, 274177, 2); n != math.MinInt || e != api.OK {
		t.Error("Near", n, e)
	}
}

// P3.2
func TestScaleAndNearOfMany(t *testing.T) {
	for _, a := range few() {
		for _, b := range few() {
			for _, c := range few() {
				about(t, a, b, c)
			}
		}
	}
}

func about(t *testing.T, a, b, c int) {
	t.Helper()
	n, e := fix.Scale(a, b, c)
	if q, f := want(product(a, b), c, down); n != q || e != f {
		t.Fatal("Scale", a, b, c, n, e, q, f)
	}
	n, e = fix.Near(a, b, c)
	if q, f := want(product(a, b), c, nearest); n != q || e != f {
		t.Fatal("Near", a, b, c, n, e, q, f)
	}
}

// P3.3
func TestPrint(t *testing.T) {
	for n, want := range map[int]string{
		0: "0", 1: "0.00390625", -1: "-0.00390625", 2: "0.0078125", 16: "0.0625", 64: "0.25", 128: "0.5", -128: "-0.5", 255: "0.99609375",
		256: "1", -256: "-1", 257: "1.00390625", -384: "-1.5", 384: "1.5", 2560: "10", 2576: "10.0625", 25600: "100", -25601: "-100.00390625",
		26: "0.1015625", 1 << 40: "4294967296", -1 << 40: "-4294967296", 1<<40 + 1: "4294967296.00390625",
		math.MaxInt: "36028797018963967.99609375", math.MinInt: "-36028797018963968", math.MinInt + 1: "-36028797018963967.99609375",
	} {
		if s := fix.Print(n); s != want {
			t.Error(n, s, want)
		}
	}
}

// P3.3
func TestPrintOfMany(t *testing.T) {
	l := numbers()
	for n := range 3 * api.One {
		l = append(l, n, -n, 1<<40-n, math.MinInt+n)
	}
	for _, n := range l {
		// Eight places tell each part exactly: only noughts are taken off.
		want := big.NewRat(int64(n), api.One).FloatString(8)
		want = strings.TrimSuffix(strings.TrimRight(want, "0"), ".")
		if s := fix.Print(n); s != want {
			t.Error(n, s, want)
		}
	}
}

// P3.3
func TestParse(t *testing.T) {
	for s, want := range map[string]int{
		"0": 0, "-0": 0, "00": 0, "-00": 0, "0.0": 0, "-0.0": 0, "-000.000000000": 0,
		"1": 256, "-1": -256, "01": 256, "-01": -256, "1.0": 256, "1.000000000000": 256, "12": 3072, "100": 25600,
		"1.5": 384, "-1.5": -384, "-01.50": -384, "0001.5": 384, "1.500000000000000": 384, "-1.05078125": -269,
		"0.00390625": 1, "-0.00390625": -1, "0.003906250": 1, "0.0039062500000000000000": 1, "0.99609375": 255, "0.5": 128, "0.0625": 16,
		"9.0": 2304, "0.75": 192, "10.25": 2624, "98765.4375": 25283952,
		"4294967296": most, "-4294967296": -most, "4294967296.0": most, "4294967295.99609375": most - 1, "-4294967295.99609375": -most + 1,
		"000000000000000000004294967296": most, "-00000000000000000004294967296": -most,
		"000000000000000000000000000001": 256, "1.0000000000000000000000000000": 256, "-0.000000000000000000000000000": 0,
		"-0.00390625000000000000000000": -1,
	} {
		if n, e := fix.Parse(s); n != want || e != api.OK {
			t.Error(s, n, e, want)
		}
	}
}

// P3.3
func TestParseOfNoNumber(t *testing.T) {
	for _, s := range []string{
		"", "-", ".", "-.", "--1", "+1", "+", "1-", "-1-", "1.", "-1.", ".5", "-.5", "1..5", "1.5.", "1.5.5", "1.-5", "-", " ", " 1", "1 ", "1 .5", "1. 5",
		"\t1", "1\n", "x", "1x", "x1", "1x5", "1.x", "1.5x", "0x10", "1e3", "1E3", "1_000", "1,5", "NaN", "Inf", "-Inf", "\x001", "1\x00", "1/", "1:", "/", ":", "1./", "1.:",
		"\u0661", "1.\u0665", "\uff11", "\u22121", "\xff", "1\xff",
		// These are no whole number of parts.
		"0.1", "0.00390624", "0.00390626", "0.001953125", "0.003906251", "0.0039062501", "1.00000001", "1.000000001", "0.99999999", "0.0000000000000000001", "-0.3",
		"0.00390625000000000000000000001", "0.005859375",
		// These are too great.
		"4294967296.00390625", "-4294967296.00390625", "4294967297", "-4294967297", "4294967296.5", "42949672960", "-42949672960", "18446744073709551616", "18446744073709551617",
		"99999999999999999999999999999", "-99999999999999999999999999999", "72057594037927936", "36028797018963968", "340282366920938463463374607431", "-340282366920938463463374607431",
		"100000000000000000000000000000",
		// These are too long.
		"0000000000000000000000000000001", "1.00000000000000000000000000000", "-0.0000000000000000000000000000", "-000000000000000000000000000001",
		strings.Repeat("0", 31), strings.Repeat("0", 100), strings.Repeat("9", 100), strings.Repeat("-", 100), strings.Repeat("1.", 50),
	} {
		if n, e := fix.Parse(s); n != 0 || e != api.ErrDigits {
			t.Errorf("%q: %d, %d", s, n, e)
		}
	}
}

// P3.3: a text of 30 bytes is a number, one of 31 is none.
func TestParseOfLongTexts(t *testing.T) {
	for size := 1; size <= 100; size++ {
		n, e := fix.Parse(strings.Repeat("0", size-1) + "7")
		if size <= 30 && (n != 7*api.One || e != api.OK) {
			t.Error(size, n, e)
		}
		if size > 30 && (n != 0 || e != api.ErrDigits) {
			t.Error(size, n, e)
		}
	}
}

// P3.3: of all texts of up to five of these bytes, just those are numbers that the promise tells.
func TestParseOfAllShortTexts(t *testing.T) {
	texts := []string{""}
	for first := 0; len(texts[first]) < 5; first++ {
		for _, c := range "-.05a" {
			texts = append(texts, texts[first]+string(c))
		}
	}
	for _, s := range texts {
		n, e := fix.Parse(s)
		want, ok := told(s)
		if ok && (n != want || e != api.OK) || !ok && (n != 0 || e != api.ErrDigits) {
			t.Errorf("%q: %d, %d", s, n, e)
		}
	}
}

// told is the number of parts that s tells, by whole fractions.
func told(s string) (int, bool) {
	size := strings.TrimPrefix(s, "-")
	pixels, places, point := strings.Cut(size, ".")
	if !digits(pixels) || point && !digits(places) {
		return 0, false
	}
	r, ok := new(big.Rat).SetString(s)
	r.Mul(r, big.NewRat(api.One, 1))
	return int(r.Num().Int64()), ok && r.IsInt()
}

func digits(s string) bool {
	return s != "" && strings.Trim(s, "0123456789") == ""
}

// P3.4
func TestPrintedIsParsedBack(t *testing.T) {
	l := numbers()
	for n := range 1000 {
		l = append(l, n, -n, most-n, n-most, n*1000003)
	}
	for _, n := range l {
		s := fix.Print(n)
		back, e := fix.Parse(s)
		if -most <= n && n <= most {
			if back != n || e != api.OK {
				t.Error(n, s, back, e)
			}
			continue
		}
		if back != 0 || e != api.ErrDigits {
			t.Error(n, s, back, e)
		}
	}
}
