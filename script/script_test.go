package script_test

import (
	"math"
	"regexp"
	"slices"
	"strconv"
	"strings"
	"testing"

	"ductus/api"
	"ductus/path"
	"ductus/script"
)

const (
	coord = 1 << 28
	verbs = 512
)

func pt(x, y int) api.Pt { return api.Pt{X: x, Y: y} }

// px is a point of whole pixels.
func px(x, y int) api.Pt { return pt(256*x, 256*y) }

func same(a, b path.Path) bool {
	return slices.Equal(a.Verbs, b.Verbs) && slices.Equal(a.Pts, b.Pts)
}

// numbers tells how many numbers stand behind a letter.
func numbers(letter rune) int {
	return map[rune]int{'M': 2, 'L': 2, 'Q': 4, 'C': 6, 'Z': 0}[letter]
}

// whole is the path of these letters, whose points are made of the numbers of
// coords, one behind the other, again and again.
func whole(letters string, coords ...int) path.Path {
	var p path.Path
	next := func() int {
		n := coords[0]
		coords = append(coords[1:], n)
		return n
	}
	for _, c := range letters {
		p.Verbs = append(p.Verbs, 1+strings.IndexRune("MLQCZ", c))
		for range numbers(c) / 2 {
			p.Pts = append(p.Pts, pt(next(), next()))
		}
	}
	return p
}

// lists calls f with all texts of up to n of these letters.
func lists(n int, of string, f func(l string)) {
	var grow func(l string)
	grow = func(l string) {
		f(l)
		if len(l) == n {
			return
		}
		for _, c := range of {
			grow(l + string(c))
		}
	}
	grow("")
}

// paths calls f with all lists of up to n letters that a path may have.
func paths(n int, f func(l string)) {
	good := regexp.MustCompile(`^(M[LQC]*Z?)*$`)
	lists(n, "MLQCZ", func(l string) {
		if good.MatchString(l) {
			f(l)
		}
	})
}

// P8.1
func TestPrint(t *testing.T) {
	for _, x := range []struct {
		p    path.Path
		want string
	}{
		{path.Path{}, ""},
		{path.Path{Verbs: []int{}, Pts: []api.Pt{}}, ""},
		{path.Path{Verbs: []int{1}, Pts: []api.Pt{{}}}, "M 0 0"},
		{path.Path{Verbs: []int{1, 5}, Pts: []api.Pt{px(1, -2)}}, "M 1 -2 Z"},
		{path.Path{Verbs: []int{1, 1}, Pts: []api.Pt{px(1, 2), px(3, 4)}}, "M 1 2 M 3 4"},
		// A verb is told again, also where it is the same one.
		{path.Path{Verbs: []int{1, 2, 2, 3}, Pts: []api.Pt{px(0, 0), px(1, 1), px(2, 2), px(3, 4), px(5, 6)}}, "M 0 0 L 1 1 L 2 2 Q 3 4 5 6"},
		{path.Path{Verbs: []int{1, 4, 5, 1, 3, 5}, Pts: []api.Pt{px(1, 2), px(3, 4), px(5, 6), px(7, 8), px(9, 10), px(11, 12), px(13, 14)}},
			"M 1 2 C 3 4 5 6 7 8 Z M 9 10 Q 11 12 13 14 Z"},
		{path.Path{Verbs: []int{1, 2}, Pts: []api.Pt{pt(1, -1), pt(-384, 1152)}}, "M 0.00390625 -0.00390625 L -1.5 4.5"},
		{path.Path{Verbs: []int{1, 2}, Pts: []api.Pt{pt(coord, -coord), pt(1-coord, coord-1)}}, "M 1048576 -1048576 L -1048575.99609375 1048575.99609375"},
	} {
		if s, e := script.Print(x.p); s != x.want || e != api.OK {
			t.Errorf("%v: %q, %d, not %q", x.p, s, e, x.want)
		}
	}
}

// P8.1: path.Check's errors, in its order, and no text.
func TestPrintOfNoPath(t *testing.T) {
	many := path.Path{Verbs: make([]int, verbs+1)}
	for _, x := range []struct {
		p    path.Path
		want api.Errno
	}{
		{many, api.ErrMany},
		{path.Path{Verbs: []int{0, 2}}, api.ErrArg},
		{path.Path{Verbs: []int{1, 6}, Pts: []api.Pt{{}}}, api.ErrArg},
		{path.Path{Verbs: []int{1, math.MinInt}, Pts: []api.Pt{{}}}, api.ErrArg},
		{path.Path{Verbs: []int{1, math.MaxInt}}, api.ErrArg},
		{path.Path{Verbs: []int{2}, Pts: []api.Pt{{}}}, api.ErrStart},
		{path.Path{Verbs: []int{1, 5, 2, 0}}, api.ErrStart},
		{path.Path{Verbs: []int{1}}, api.ErrPoints},
		{path.Path{Pts: []api.Pt{{}}}, api.ErrPoints},
		{path.Path{Verbs: []int{1, 4}, Pts: make([]api.Pt, 3)}, api.ErrPoints},
		{path.Path{Verbs: []int{1}, Pts: make([]api.Pt, 2)}, api.ErrPoints},
		{path.Path{Verbs: []int{1}, Pts: []api.Pt{pt(coord+1, 0), {}}}, api.ErrPoints},
		{path.Path{Verbs: []int{1}, Pts: []api.Pt{pt(coord+1, 0)}}, api.ErrFar},
		{path.Path{Verbs: []int{1, 2}, Pts: []api.Pt{{}, pt(0, math.MinInt)}}, api.ErrFar},
	} {
		if s, e := script.Print(x.p); s != "" || e != x.want {
			t.Errorf("%v: %q, %d, not %d", x.p, s, e, x.want)
		}
	}
}

// P8.1: of all short paths, of whole pixels, that strconv tells.
func TestPrintOfAllShortPaths(t *testing.T) {
	paths(6, func(l string) {
		p := whole(l, 256, -512, 0, 2560, -25600)
		var want []string
		pixels := strings.Fields(strings.Repeat("1 -2 0 10 -100 ", len(l)*6))
		for _, c := range l {
			want = append(want, string(c))
			want = append(want, pixels[:numbers(c)]...)
			pixels = pixels[numbers(c):]
		}
		if s, e := script.Print(p); s != strings.Join(want, " ") || e != api.OK {
			t.Fatalf("%s: %q, %d", l, s, e)
		}
	})
}

// P8.2
func TestParse(t *testing.T) {
	for s, want := range map[string]path.Path{
		"":                      {},
		" \t\r\n,, ":            {},
		"M 0 0 1,1 Q 1 2 3 4.5": {Verbs: []int{1, 2, 3}, Pts: []api.Pt{px(0, 0), px(1, 1), px(1, 2), pt(768, 1152)}},
		"M 1 2":                 {Verbs: []int{1}, Pts: []api.Pt{px(1, 2)}},
		"M,1,2":                 {Verbs: []int{1}, Pts: []api.Pt{px(1, 2)}},
		"M,,1, ,2,":             {Verbs: []int{1}, Pts: []api.Pt{px(1, 2)}},
		"\n\tM\r\n1\t2\n Z \n":  {Verbs: []int{1, 5}, Pts: []api.Pt{px(1, 2)}},
		"M 1 2 M 3 4":           {Verbs: []int{1, 1}, Pts: []api.Pt{px(1, 2), px(3, 4)}},
		"M 1 2 3 4":             {Verbs: []int{1, 2}, Pts: []api.Pt{px(1, 2), px(3, 4)}},
		"M 1 2 3 4 5 6 Z":       {Verbs: []int{1, 2, 2, 5}, Pts: []api.Pt{px(1, 2), px(3, 4), px(5, 6)}},
		"M 0 0 L 1 1 2 2":       {Verbs: []int{1, 2, 2}, Pts: []api.Pt{px(0, 0), px(1, 1), px(2, 2)}},
		"M 0 0 Q 1 2 3 4 5 6 7 8": {
			Verbs: []int{1, 3, 3}, Pts: []api.Pt{px(0, 0), px(1, 2), px(3, 4), px(5, 6), px(7, 8)}},
		"M 0 0 C 1 2 3 4 5 6 -1 -2 -3 -4 -5 -6 L 9 9": {
			Verbs: []int{1, 4, 4, 2}, Pts: []api.Pt{px(0, 0), px(1, 2), px(3, 4), px(5, 6), px(-1, -2), px(-3, -4), px(-5, -6), px(9, 9)}},
		"M 0 0 Z M 1 1 2 2 Z": {Verbs: []int{1, 5, 1, 2, 5}, Pts: []api.Pt{px(0, 0), px(1, 1), px(2, 2)}},
		"M 0 0 Q 1 1 2 2 M 3 3 4 4": {
			Verbs: []int{1, 3, 1, 2}, Pts: []api.Pt{px(0, 0), px(1, 1), px(2, 2), px(3, 3), px(4, 4)}},
		"M -01.50 0.00390625 L -0 007.0": {Verbs: []int{1, 2}, Pts: []api.Pt{pt(-384, 1), pt(0, 1792)}},
		"M 1048576 -1048576":             {Verbs: []int{1}, Pts: []api.Pt{pt(coord, -coord)}},
		"M 000000000000000000000000000001 1.0000000000000000000000000000": {Verbs: []int{1}, Pts: []api.Pt{px(1, 1)}},
	} {
		if p, at, e := script.Parse(s); !same(p, want) || at != 0 || e != api.OK {
			t.Errorf("%q: %v, %d, %d, not %v", s, p, at, e, want)
		}
	}
}

// P8.2: texts that are wrong, and where.
func TestParseOfNoPath(t *testing.T) {
	for s, want := range map[string]int{
		// A verb is wrong.
		"x": 0, "m 0 0": 0, "1": 0, "1 2": 0, "-": 0, "  \n, 1 2": 5, "MM 0 0": 0, "M0 0": 0, "ML": 0, "\x00": 0, "\xff": 0,
		"M 0 0 x": 6, "M 0 0 m 1 1": 6, "M 0 0 z": 6, "M 0 0 A 1 1": 6, "M 0 0 ZZ": 6, "M 0 0 L1 1": 6, "M 0 0 LL 1 1": 6, "M 0 0 Z x": 8,
		"M 0 0 1": 7, "M 0 0 .": 6, "M 0 0 - 1": 6,
		// Behind a Close stand no numbers.
		"M 0 0 Z 1 1": 8, "M 0 0 1 1 Z,,1": 13, "M 0 0 Z Z 1 1": 10, "Z 1 1": 2, "Z Z x": 4,
		// A number is wrong.
		"M x 0": 2, "M 0 x": 4, "M 0,x 1": 4, "M M 0": 2, "M 0 M": 4, "M Z": 2, "M 0 Z": 4, "M 0 0 L Z": 8, "M 0 0 Q 1 1 1 L": 14, "M 0 0 Q 1 1 L 1 1": 12, "M 0 0 1 L 1 1": 8,
		"M 0 0.1": 4, "M .5 0": 2, "M 1. 0": 2, "M +1 0": 2, "M 1e1 0": 2, "M 0 0x10": 4, "M 1-1": 2, "M 1 1;2": 4, "M 0 4294967297": 4, "M 0 -4294967296.00390625": 4,
		"M 0 0000000000000000000000000000000": 4, "M 1\v2": 2, "M 1\f2": 2, "M\v1 2": 0, "M 1\u00a02 3": 2, "M 1\u00852 3": 2, "M 1 \u0662": 4, "M 1 2\x00": 4,
		"M 0 0 C 1 1 1 1 1 x": 18, "M 0 0 C 1 1 1 1 1 1 2 2 2 2 x 2": 28, "M 0 0 Q 1 2 3 4 5 6 7 y": 22, "\t M\t 0\t 00.\t": 8,
		// A word lacks: it would stand behind all blanks.
		"M": 1, "M ": 2, "M 0": 3, " M 0,": 5, "M 0 0 L": 7, "M 0 0 L 1": 9, "M 0 0 1\n": 8, "M 0 0 Q 1 1 1": 13, "M 0 0 C": 7, "M 0 0 C 1 1 1 1 1 ,\n": 20,
		"M 0 0 C 1 1 1 1 1 1 2": 21, "L": 1, "Q 1": 3, "M 0 0 Z L\r": 10,
		// The text's faults come ahead of the path's.
		"L 0 0 x": 6, "Z Z Z 1": 6, "M 9999999 0 x": 12, "M 9999999 ": 10, "L 9999999 0 L": 13,
	} {
		if p, at, e := script.Parse(s); !same(p, path.Path{}) || at != want || e != api.ErrSyntax {
			t.Errorf("%q: %v, %d, %d, not %d", s, p, at, e, want)
		}
	}
}

// P8.2: at last path.Check's error, with no place and no path.
func TestParseOfPathsThatMayNotBe(t *testing.T) {
	moves := func(n int) string { return strings.Repeat("M 1 1 ", n) }
	lines := func(n int) string { return "M" + strings.Repeat(" 1 1", n) }
	for _, x := range []struct {
		s    string
		want api.Errno
	}{
		{"L 0 0", api.ErrStart}, {"Q 0 0 1 1", api.ErrStart}, {"C 0 0 1 1 2 2", api.ErrStart}, {"Z", api.ErrStart}, {"  Z  ", api.ErrStart},
		{"M 0 0 Z Z", api.ErrStart}, {"M 0 0 Z L 1 1", api.ErrStart}, {"L 0 0 M 1 1", api.ErrStart}, {"L 0 0 1 1", api.ErrStart},
		{"M 1048576.00390625 0", api.ErrFar}, {"M 0 -1048576.00390625", api.ErrFar}, {"M 0 0 L 4294967296 0", api.ErrFar}, {"M 0 0 0 -4294967296", api.ErrFar},
		{"L 4294967296 0", api.ErrStart},
		{moves(verbs + 1), api.ErrMany}, {lines(verbs + 1), api.ErrMany}, {strings.Repeat("Z ", verbs+1), api.ErrMany}, {lines(verbs) + " Z", api.ErrMany},
		{strings.Repeat("L 9999999 1 ", verbs+1), api.ErrMany}, {lines(5000), api.ErrMany},
	} {
		if p, at, e := script.Parse(x.s); !same(p, path.Path{}) || at != 0 || e != x.want {
			t.Errorf("%.40q: %v, %d, %d, not %d", x.s, p, at, e, x.want)
		}
	}
	for _, s := range []string{moves(verbs), lines(verbs), lines(verbs-1) + " Z"} {
		if p, at, e := script.Parse(s); len(p.Verbs) != verbs || at != 0 || e != api.OK {
			t.Errorf("%.40q: %d verbs, %d, %d", s, len(p.Verbs), at, e)
		}
	}
	// A text that is too long by far is wrong at its place all the same.
	s := lines(verbs+1) + " 1 "
	if p, at, e := script.Parse(s); !same(p, path.Path{}) || at != len(s) || e != api.ErrSyntax {
		t.Errorf("%d, %d", at, e)
	}
	s += "Z"
	if p, at, e := script.Parse(s); !same(p, path.Path{}) || at != len(s)-1 || e != api.ErrSyntax {
		t.Errorf("%d, %d", at, e)
	}
}

var (
	full  = regexp.MustCompile(`^(M(nn)+|L(nn)+|Q(nnnn)+|C(nnnnnn)+|Z)*$`)
	begun = regexp.MustCompile(`^(M(nn)+|L(nn)+|Q(nnnn)+|C(nnnnnn)+|Z)*(M(nn)*n?|L(nn)*n?|Q(nnnn)*n{0,3}|C(nnnnnn)*n{0,5})?$`)
	whose = regexp.MustCompile(`[MLQCZ]n*`)
)

// told tells the letters of a path whose text has these words, n for a number,
// x for one that is wrong; or the first word that is wrong, or lacks.
func told(words string) (letters string, wrong int) {
	if full.MatchString(words) {
		for _, l := range whose.FindAllString(words, -1) {
			c := rune(l[0])
			letters += string(c)
			for n := len(l) - 1 - numbers(c); n > 0; n -= numbers(c) {
				if c == 'M' {
					c = 'L'
				}
				letters += string(c)
			}
		}
		return letters, -1
	}
	for n := range words {
		if !begun.MatchString(words[:n+1]) {
			return "", n
		}
	}
	return "", len(words)
}

// spell is the text of these words, blanks of many kinds between; numbers are
// 1, 2 and so on; and it tells where each word begins, and where the text ends.
func spell(words string) (s string, places []int) {
	blanks := []string{" ", ",", "\t", "\n", "\r", " , ", ",,", "\r\n"}
	n := 0
	for i, c := range words {
		s += blanks[(i+len(words))%len(blanks)]
		places = append(places, len(s))
		switch c {
		case 'n':
			n++
			s += strconv.Itoa(n)
		default:
			s += string(c)
		}
	}
	s += blanks[(n+len(words))%len(blanks)]
	return s, append(places, len(s))
}

func checkWords(t *testing.T, words string) {
	t.Helper()
	s, places := spell(words)
	letters, wrong := told(words)
	p, at, e := script.Parse(s)
	if wrong >= 0 {
		if !same(p, path.Path{}) || at != places[wrong] || e != api.ErrSyntax {
			t.Fatalf("%q: %v, %d, %d, not %d", s, p, at, e, places[wrong])
		}
		return
	}
	var counts []int
	for i := range words {
		counts = append(counts, 256*(i+1))
	}
	want := whole(letters, counts...)
	if f := path.Check(want); f != api.OK {
		want = path.Path{}
		if e != f {
			t.Fatalf("%q: %d, not %d", s, e, f)
		}
	} else if e != api.OK {
		t.Fatalf("%q: %d", s, e)
	}
	if !same(p, want) || at != 0 {
		t.Fatalf("%q: %v, %d, not %v", s, p, at, want)
	}
}

// P8.2: all texts of up to six words, and each verb with any many numbers, and
// any word behind.
func TestParseOfAllShortTexts(t *testing.T) {
	lists(6, "MLQCZnx", func(l string) { checkWords(t, l) })
	for _, first := range []string{"", "Mnn", "MnnZ", "Cnnnnnn", "Qnnnn"} {
		for _, verb := range "MLQCZ" {
			for n := range 20 {
				for _, last := range []string{"", "M", "L", "Q", "C", "Z", "x", "Mnn", "Lnnn", "Znn"} {
					checkWords(t, first+string(verb)+strings.Repeat("n", n)+last)
				}
			}
		}
	}
}

// P8.2: of all bytes just five are blanks, and just five are verbs.
func TestParseOfAllBytes(t *testing.T) {
	for b := range 256 {
		c := string([]byte{byte(b)})
		blank := strings.Contains("\t\n\r ,", c)
		_, at, e := script.Parse(c)
		switch want := strings.Index("ZMLQC", c); {
		case blank && (e != api.OK || at != 0), want == 0 && (e != api.ErrStart || at != 0), want > 0 && (e != api.ErrSyntax || at != 1):
			t.Errorf("%q: %d, %d", c, at, e)
		case !blank && want < 0 && (e != api.ErrSyntax || at != 0):
			t.Errorf("%q: %d, %d", c, at, e)
		}
		p, at, e := script.Parse("M 0" + c + "7")
		switch {
		case blank:
			if !same(p, path.Path{Verbs: []int{1}, Pts: []api.Pt{px(0, 7)}}) || at != 0 || e != api.OK {
				t.Errorf("0%s7: %v, %d, %d", c, p, at, e)
			}
		case '0' <= b && b <= '9':
			if at != 5 || e != api.ErrSyntax {
				t.Errorf("0%s7: %v, %d, %d", c, p, at, e)
			}
		default:
			if at != 2 || e != api.ErrSyntax {
				t.Errorf("0%s7: %v, %d, %d", c, p, at, e)
			}
		}
	}
}

// P8.3
func TestPrintedIsParsedBack(t *testing.T) {
	back := func(p path.Path) {
		t.Helper()
		s, e := script.Print(p)
		if e != api.OK {
			t.Fatal(p, e)
		}
		if q, at, e := script.Parse(s); !same(p, q) || at != 0 || e != api.OK {
			t.Fatalf("%v: %q, %v, %d, %d", p, s, q, at, e)
		}
	}
	paths(6, func(l string) {
		back(whole(l, 0, 1, -1, 384, -coord, coord, 255, -257, 1000003, 1-coord, coord-1))
	})
	for _, l := range []string{"M", "MLQCZ", "MC", "MZ", "MQQQ", "MLMC"} {
		back(whole(strings.Repeat(l, verbs/len(l)), 3, -1000, 77777, coord, -coord, 64, -9))
	}
	back(whole("M"+strings.Repeat("C", verbs-1), 1-coord, coord-1, -1))
}

// R4, R5: what is handed in stays as it is, and writing over an answer changes
// no other one.
func TestMemory(t *testing.T) {
	p := whole("MLCQZM", 1, -2, 384, 5000)
	kept := path.Path{Verbs: slices.Clone(p.Verbs), Pts: slices.Clone(p.Pts)}
	s, _ := script.Print(p)
	if !same(p, kept) {
		t.Error("Print changed its path")
	}
	a, _, _ := script.Parse(s)
	clear(a.Verbs[:cap(a.Verbs)])
	clear(a.Pts[:cap(a.Pts)])
	if b, at, e := script.Parse(s); !same(b, kept) || at != 0 || e != api.OK {
		t.Error(b, at, e)
	}
}
