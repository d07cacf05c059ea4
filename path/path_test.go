package path_test

import (
	"math"
	"reflect"
	"regexp"
	"slices"
	"testing"

	"ductus/api"
	"ductus/path"
)

const (
	coord = 1 << 28
	verbs = 512
)

func pt(x, y int) api.Pt { return api.Pt{X: x, Y: y} }

// dots are n points, all of them others.
func dots(n int) []api.Pt {
	var l []api.Pt
	for i := range n {
		l = append(l, pt(i+1, -2*i-1))
	}
	return l
}

// wants tells how many points these verbs take; those that are none take none.
func wants(l []int) int {
	n := 0
	for _, v := range l {
		n += map[int]int{1: 1, 2: 1, 3: 2, 4: 3}[v]
	}
	return n
}

// whole is the path of these verbs, each with as many points as it takes.
func whole(l ...int) path.Path {
	return path.Path{Verbs: l, Pts: dots(wants(l))}
}

// lists calls f with all lists of up to n of these numbers; f must not keep them.
func lists(n int, of []int, f func(l []int)) {
	var grow func(l []int)
	grow = func(l []int) {
		f(l)
		if len(l) == n {
			return
		}
		for _, v := range of {
			grow(append(slices.Clone(l), v))
		}
	}
	grow(nil)
}

// sameSubs tells whether these are the same subpaths; nil lists are as empty ones.
func sameSubs(a, b []path.Sub) bool {
	return slices.EqualFunc(a, b, func(s, t path.Sub) bool {
		return s.Start == t.Start && s.Closed == t.Closed && slices.Equal(s.Segs, t.Segs)
	})
}

func samePaths(a, b path.Path) bool {
	return slices.Equal(a.Verbs, b.Verbs) && slices.Equal(a.Pts, b.Pts)
}

func seg(l ...api.Pt) path.Seg {
	s := path.Seg{N: len(l)}
	copy(s.P[:], l)
	return s
}

// P7.1: the verbs' numbers, and Takes.
func TestTakes(t *testing.T) {
	if got := [...]int{path.Move, path.Line, path.Quad, path.Cubic, path.Close}; got != [...]int{1, 2, 3, 4, 5} {
		t.Errorf("the verbs are %v", got)
	}
	want := map[int]int{1: 1, 2: 1, 3: 2, 4: 3, 5: 0}
	all := []int{math.MinInt, math.MinInt + 1, -1 << 32, 1<<32 + 1, 1<<32 + 5, math.MaxInt}
	for v := -300; v <= 300; v++ {
		all = append(all, v)
	}
	for _, v := range all {
		n, ok := want[v]
		if !ok {
			n = -1
		}
		if got := path.Takes(v); got != n {
			t.Errorf("Takes(%d) is %d, not %d", v, got, n)
		}
	}
}

// verbError finds the first wrong verb of l in its letters.
func verbError(l []int) api.Errno {
	letters := ""
	for _, v := range l {
		if v < 1 || v > 5 {
			letters += "?"
		} else {
			letters += string("MLQCZ"[v-1])
		}
	}
	start := regexp.MustCompile(`^(M[LQC]*Z?)*[LQCZ]`).FindStringIndex
	none := regexp.MustCompile(`^[^?]*\?`).FindStringIndex(letters)
	good := len(regexp.MustCompile(`^(M[LQC]*Z?)*`).FindString(letters))
	switch {
	case good == len(letters):
		return api.OK
	case none != nil && none[1] == good+1:
		return api.ErrArg
	case start(letters) != nil:
		return api.ErrStart
	}
	panic(letters)
}

// P7.1: Check, of all short lists of verbs, with as many points, and with one
// more or less.
func TestCheckVerbs(t *testing.T) {
	lists(5, []int{-1, 0, 1, 2, 3, 4, 5, 6}, func(l []int) {
		p := whole(l...)
		e := verbError(l)
		if got := path.Check(p); got != e {
			t.Fatalf("Check(%v) is %v, not %v", l, got, e)
		}
		if e == api.OK {
			e = api.ErrPoints
		}
		p.Pts = append(p.Pts, pt(1, 1))
		if got := path.Check(p); got != e {
			t.Fatalf("Check(%v) with a point more is %v, not %v", l, got, e)
		}
		if n := len(p.Pts) - 2; n >= 0 {
			p.Pts = p.Pts[:n]
			if got := path.Check(p); got != e {
				t.Fatalf("Check(%v) with a point less is %v, not %v", l, got, e)
			}
		}
	})
}

// P7.1: Check, of the errors' order and of what is just far, or just too many.
func TestCheckEdges(t *testing.T) {
	lines := append([]int{path.Move}, slices.Repeat([]int{path.Line}, verbs-1)...)
	late := slices.Clone(lines)
	late[verbs-1] = 9
	farAt := func(q api.Pt) path.Path {
		return path.Path{Verbs: []int{1, 4}, Pts: []api.Pt{{}, {}, {}, q}}
	}
	for _, c := range []struct {
		name string
		p    path.Path
		want api.Errno
	}{
		{"empty", path.Path{}, api.OK},
		{"empty lists", path.Path{Verbs: []int{}, Pts: []api.Pt{}}, api.OK},
		{"a point alone", path.Path{Pts: dots(1)}, api.ErrPoints},
		{"a move alone", whole(1), api.OK},
		{"as many verbs as may be", whole(lines...), api.OK},
		{"one verb more", whole(append(slices.Clone(lines), 2)...), api.ErrMany},
		{"too many, and none of them good", path.Path{Verbs: make([]int, verbs+1)}, api.ErrMany},
		{"as many as may be, the last one bad", whole(late...), api.ErrArg},
		{"no verb ahead of no start", whole(0, 2), api.ErrArg},
		{"no start ahead of no verb", whole(2, 0), api.ErrStart},
		{"behind a close ahead of no verb", whole(1, 5, 2, 0), api.ErrStart},
		{"no verb behind a close", whole(1, 5, 0, 2), api.ErrArg},
		{"close, twice", whole(1, 5, 5), api.ErrStart},
		{"close alone", whole(5), api.ErrStart},
		{"start ahead of points", path.Path{Verbs: []int{2}}, api.ErrStart},
		{"points ahead of far", path.Path{Verbs: []int{1}, Pts: []api.Pt{pt(coord+1, 0), {}}}, api.ErrPoints},
		{"at the end", farAt(pt(coord, -coord)), api.OK},
		{"at the other end", farAt(pt(-coord, coord)), api.OK},
		{"X above", farAt(pt(coord+1, 0)), api.ErrFar},
		{"X below", farAt(pt(-coord-1, 0)), api.ErrFar},
		{"Y above", farAt(pt(0, coord+1)), api.ErrFar},
		{"Y below", farAt(pt(0, -coord-1)), api.ErrFar},
		{"X below, Y above", farAt(pt(-coord-1, coord)), api.ErrFar},
		{"least", farAt(pt(math.MinInt, 0)), api.ErrFar},
		{"greatest", farAt(pt(0, math.MaxInt)), api.ErrFar},
		{"the first one", path.Path{Verbs: []int{1, 2}, Pts: []api.Pt{pt(coord+1, 0), {}}}, api.ErrFar},
	} {
		if got := path.Check(c.p); got != c.want {
			t.Errorf("%s: Check is %v, not %v", c.name, got, c.want)
		}
		if l, e := path.Split(c.p); e != c.want || e != api.OK && l != nil {
			t.Errorf("%s: Split is %v, %v, not of error %v", c.name, l, e, c.want)
		}
	}
}

// split is Split of a path that Check takes, read off its words.
func split(p path.Path) []path.Sub {
	var l []path.Sub
	next := 0
	for i, v := range p.Verbs {
		if v == path.Move {
			l = append(l, path.Sub{Start: p.Pts[next]})
		}
		s := &l[len(l)-1]
		if n := wants([]int{v}); v != path.Move && v != path.Close {
			s.Segs = append(s.Segs, seg(p.Pts[next-1:next+n]...))
		}
		if v == path.Close {
			s.Closed = true
			if q := p.Pts[next-1]; q != s.Start {
				s.Segs = append(s.Segs, seg(q, s.Start))
			}
		}
		next += wants(p.Verbs[i : i+1])
	}
	return l
}

// P7.2: Split, of named paths.
func TestSplit(t *testing.T) {
	a, b, c, d := pt(1, 2), pt(3, 4), pt(-5, 6), pt(7, -8)
	for _, x := range []struct {
		name string
		p    path.Path
		want []path.Sub
	}{
		{"empty", path.Path{}, nil},
		{"a move", path.Path{Verbs: []int{1}, Pts: []api.Pt{a}}, []path.Sub{{Start: a}}},
		{"two moves", path.Path{Verbs: []int{1, 1}, Pts: []api.Pt{a, a}}, []path.Sub{{Start: a}, {Start: a}}},
		{"the document's", path.Path{Verbs: []int{1, 2, 5}, Pts: []api.Pt{a, b}},
			[]path.Sub{{a, []path.Seg{seg(a, b), seg(b, a)}, true}}},
		{"a move, closed", path.Path{Verbs: []int{1, 5}, Pts: []api.Pt{a}}, []path.Sub{{Start: a, Closed: true}}},
		{"it came back", path.Path{Verbs: []int{1, 2, 2, 5}, Pts: []api.Pt{a, b, a}},
			[]path.Sub{{a, []path.Seg{seg(a, b), seg(b, a)}, true}}},
		{"it stayed", path.Path{Verbs: []int{1, 2, 5}, Pts: []api.Pt{a, a}},
			[]path.Sub{{a, []path.Seg{seg(a, a)}, true}}},
		{"a curve came back", path.Path{Verbs: []int{1, 4, 5}, Pts: []api.Pt{a, b, c, a}},
			[]path.Sub{{a, []path.Seg{seg(a, b, c, a)}, true}}},
		{"came back, open", path.Path{Verbs: []int{1, 3}, Pts: []api.Pt{a, b, a}},
			[]path.Sub{{a, []path.Seg{seg(a, b, a)}, false}}},
		{"all kinds", path.Path{Verbs: []int{1, 4, 3, 2, 1, 3, 5, 1}, Pts: []api.Pt{a, b, c, d, a, b, c, d, a, b, c}},
			[]path.Sub{
				{a, []path.Seg{seg(a, b, c, d), seg(d, a, b), seg(b, c)}, false},
				{d, []path.Seg{seg(d, a, b), seg(b, d)}, true},
				{c, nil, false},
			}},
	} {
		if got, e := path.Split(x.p); e != api.OK || !sameSubs(got, x.want) {
			t.Errorf("%s: Split is %v, %v, not %v", x.name, got, e, x.want)
		}
	}
}

// coin tells the points of a path, of few kinds, so that some of them are alike.
func coin(n, turn int) []api.Pt {
	l := make([]api.Pt, n)
	for i := range l {
		l[i] = pt((i*turn+turn/3)%3, (i*i+turn)%2)
	}
	return l
}

// P7.2, P7.5: all short paths are split as told, and split again when joined.
func TestSplitAll(t *testing.T) {
	lists(6, []int{1, 2, 3, 4, 5}, func(l []int) {
		if verbError(l) != api.OK {
			return
		}
		for turn := range 6 {
			p := path.Path{Verbs: l, Pts: coin(wants(l), turn)}
			subs, e := path.Split(p)
			if e != api.OK || !sameSubs(subs, split(p)) {
				t.Fatalf("Split(%v) is %v, %v, not %v", p, subs, e, split(p))
			}
			again, e := path.Split(path.Join(subs))
			if e != api.OK || !sameSubs(again, subs) {
				t.Fatalf("%v: joined and split again is %v, %v, not %v", p, again, e, subs)
			}
		}
	})
}

// P7.5: the greatest path that may be, too, as long as its closing lines leave
// it no more verbs than may be.
func TestJoinedLong(t *testing.T) {
	p := whole(slices.Repeat([]int{1, 4, 2, 5}, verbs/5)...)
	subs, e := path.Split(p)
	if e != api.OK || len(subs) != verbs/5 {
		t.Fatalf("%d subpaths, %v", len(subs), e)
	}
	again, e := path.Split(path.Join(subs))
	if e != api.OK || !sameSubs(again, subs) {
		t.Errorf("joined and split again: %v", e)
	}
	open := whole(slices.Repeat([]int{1, 4}, verbs/2)...)
	subs, _ = path.Split(open)
	if got := path.Join(subs); !samePaths(got, open) {
		t.Errorf("joined is %v", got)
	}
}

// P7.1, P7.3: the closing lines that Split tells are segments that Join lays as
// any others, so that it may come to more verbs than a path may have.
func TestJoinedTooLong(t *testing.T) {
	p := whole(slices.Repeat([]int{1, 2, 5}, verbs/3)...)
	subs, e := path.Split(p)
	if e != api.OK || len(subs) != verbs/3 {
		t.Fatalf("%d subpaths, %v", len(subs), e)
	}
	joined := path.Join(subs)
	if want := slices.Repeat([]int{1, 2, 2, 5}, verbs/3); !slices.Equal(joined.Verbs, want) {
		t.Errorf("joined has the verbs %v", joined.Verbs)
	}
	if again, e := path.Split(joined); e != api.ErrMany || again != nil {
		t.Errorf("split again is %v, %v", again, e)
	}
}

// P7.3: Join, of segments of any N, and of points that fit nowhere.
func TestJoin(t *testing.T) {
	a, b, c, d := pt(1, 2), pt(coord*8, 4), pt(-5, math.MinInt), pt(7, -8)
	full := [4]api.Pt{a, b, c, d}
	for _, x := range []struct {
		name string
		l    []path.Sub
		want path.Path
	}{
		{"none", nil, path.Path{}},
		{"an empty one", []path.Sub{{}}, path.Path{Verbs: []int{1}, Pts: []api.Pt{{}}}},
		{"closed", []path.Sub{{Start: c, Closed: true}}, path.Path{Verbs: []int{1, 5}, Pts: []api.Pt{c}}},
		{"by N", []path.Sub{{d, []path.Seg{{full, 2}, {full, 3}, {full, 4}}, true}},
			path.Path{Verbs: []int{1, 2, 3, 4, 5}, Pts: []api.Pt{d, b, b, c, b, c, d}}},
		{"of another N", []path.Sub{{d, []path.Seg{
			{full, 0}, {full, 1}, {full, 5}, {full, -1}, {full, -2}, {full, 2},
			{full, math.MinInt}, {full, math.MaxInt}, {full, 1<<32 + 2},
		}, false}, {Start: a}}, path.Path{Verbs: []int{1, 2, 1}, Pts: []api.Pt{d, b, a}}},
		{"not closed by itself", []path.Sub{{a, []path.Seg{seg(a, b)}, true}},
			path.Path{Verbs: []int{1, 2, 5}, Pts: []api.Pt{a, b}}},
		{"many", slices.Repeat([]path.Sub{{Start: a}}, 600),
			path.Path{Verbs: slices.Repeat([]int{1}, 600), Pts: slices.Repeat([]api.Pt{a}, 600)}},
	} {
		if got := path.Join(x.l); !samePaths(got, x.want) {
			t.Errorf("%s: Join is %v, not %v", x.name, got, x.want)
		}
	}
}

// P7.3: Shift, also of what is no path, and of points that go round.
func TestShift(t *testing.T) {
	p := path.Path{Verbs: []int{9, 1, 5, -4}, Pts: []api.Pt{pt(1, 2), pt(math.MaxInt, math.MinInt)}}
	for _, x := range []struct{ by, first, second api.Pt }{
		{pt(0, 0), p.Pts[0], p.Pts[1]},
		{pt(10, -20), pt(11, -18), pt(math.MinInt+9, math.MaxInt-19)},
		{pt(math.MaxInt, math.MinInt), pt(math.MinInt, math.MinInt+2), pt(-2, 0)},
	} {
		want := path.Path{Verbs: p.Verbs, Pts: []api.Pt{x.first, x.second}}
		if got := path.Shift(p, x.by); !samePaths(got, want) {
			t.Errorf("Shift by %v is %v, not %v", x.by, got, want)
		}
	}
	if got := path.Shift(path.Path{}, pt(1, 2)); len(got.Verbs)+len(got.Pts) != 0 {
		t.Errorf("Shift of an empty path is %v", got)
	}
}

// P7.4: Dot and End, of all segments of two kinds of points, and any N.
func TestDotEnd(t *testing.T) {
	of := []api.Pt{pt(3, 4), pt(3, 5), pt(2, 4)}
	counts := map[int]int{
		math.MinInt: 2, -4: 2, -1: 2, 0: 2, 1: 2, 2: 2, 3: 3, 4: 4, 5: 4, 6: 4, 1 << 32: 4, math.MaxInt: 4,
	}
	for k := range 81 {
		s := path.Seg{P: [4]api.Pt{of[k%3], of[k/3%3], of[k/9%3], of[k/27]}}
		for n, count := range counts {
			s.N = n
			alike := true
			for i := 1; i < count; i++ {
				alike = alike && s.P[i] == s.P[i-1]
			}
			if got := path.Dot(s); got != alike {
				t.Errorf("Dot(%v) is %v", s, got)
			}
			if got := path.End(s); got != s.P[count-1] {
				t.Errorf("End(%v) is %v", s, got)
			}
		}
	}
}

// R4: what is handed in stays as it is, and no answer shares memory with it or
// within itself.
func TestMemory(t *testing.T) {
	p := whole(1, 2, 4, 5, 1, 3, 5, 1, 2)
	p.Verbs = append(make([]int, 0, 99), p.Verbs...)
	p.Pts = append(make([]api.Pt, 0, 99), p.Pts...)
	before := path.Path{Verbs: slices.Clone(p.Verbs[:99]), Pts: slices.Clone(p.Pts[:99])}
	held := func(what string) {
		if !reflect.DeepEqual(before, path.Path{Verbs: p.Verbs[:99], Pts: p.Pts[:99]}) {
			t.Fatalf("%s changed the path", what)
		}
	}
	path.Check(p)
	held("Check")
	subs, _ := path.Split(p)
	kept, _ := path.Split(p)
	for i := range subs {
		for j := range subs[i].Segs[:cap(subs[i].Segs)] {
			subs[i].Segs[:cap(subs[i].Segs)][j] = path.Seg{N: -9}
		}
		for j := i + 1; j < len(subs); j++ {
			if !sameSubs(subs[j:j+1], kept[j:j+1]) {
				t.Errorf("subpath %d shares memory with %d", i, j)
			}
		}
	}
	held("writing over what Split told")

	joined := path.Join(kept)
	clear(joined.Verbs[:cap(joined.Verbs)])
	clear(joined.Pts[:cap(joined.Pts)])
	if again, _ := path.Split(p); !sameSubs(kept, again) {
		t.Error("writing over what Join told changed its subpaths")
	}
	for _, by := range []api.Pt{{}, pt(1, 1)} {
		shifted := path.Shift(p, by)
		held("Shift")
		clear(shifted.Verbs[:cap(shifted.Verbs)])
		clear(shifted.Pts[:cap(shifted.Pts)])
		held("writing over what Shift told")
	}
}
