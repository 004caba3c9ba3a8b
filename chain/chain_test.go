package chain

import (
	"math"
	"slices"
	"strings"
	"testing"

	"rootstock/api"
	"rootstock/pagefile"
)

const (
	greatest = 4294967295
	low      = math.MinInt
	high     = math.MaxInt
)

// The calls keep the signatures that the chapter lists.
var (
	_ func([]api.Run) int                                       = Pages
	_ func(int, []api.Run) (string, api.Errno)                  = Body
	_ func(string) (int, []api.Run, api.Errno)                  = Parse
	_ func(*pagefile.File, []api.Run, []int) (int, api.Errno)   = Write
	_ func(*pagefile.File, int) ([]api.Run, []int, api.Errno)   = Read
	_ [PerPage]struct{}                                         = [29]struct{}{}
	_ [api.Body - 2]struct{}                                    = [4 + 2 + PerPage*8]struct{}{}
	_ func(*pagefile.File, int) func(func(id int, l link) bool) = links
)

// list is runs by their ends: From, To, From, To ..
func list(n ...int) []api.Run {
	var l []api.Run
	for i := 0; i+1 < len(n); i += 2 {
		l = append(l, api.Run{From: n[i], To: n[i+1]})
	}
	return l
}

// many is so many runs, apart from one another, in the one way.
func many(n int) []api.Run {
	var l []api.Run
	for i := range n {
		l = append(l, api.Run{From: 5*i + 1, To: 5*i + 1 + i%4})
	}
	return l
}

// four is a number in four bytes.
func four(n int) string {
	return string([]byte{byte(n >> 24), byte(n >> 16), byte(n >> 8), byte(n)})
}

// bodyOf is a body, by the chapter's words alone; count is what it says of itself.
func bodyOf(next, count int, l []api.Run) string {
	s := []byte(four(next) + four(count)[2:])
	for _, r := range l {
		s = append(s, four(r.From)+four(r.To)...)
	}
	return string(s)
}

func bodyIs(t testing.TB, next int, l []api.Run) {
	t.Helper()
	want := bodyOf(next, len(l), l)
	if s, e := Body(next, l); s != want || e != api.OK {
		t.Errorf("Body(%d, %v) = %x, %d, want %x", next, l, s, e, want)
	}
	parses(t, want, next, l)
}

func bodyErr(t testing.TB, next int, l []api.Run) {
	t.Helper()
	if s, e := Body(next, l); s != "" || e != api.ErrArg {
		t.Errorf("Body(%d, %v) = %x, %d", next, l, s, e)
	}
}

func parses(t testing.TB, body string, next int, l []api.Run) {
	t.Helper()
	if n, got, e := Parse(body); n != next || !slices.Equal(got, l) || e != api.OK {
		t.Errorf("Parse(%x) = %d, %v, %d, want %d, %v", body, n, got, e, next, l)
	}
}

func parseErr(t testing.TB, body string) {
	t.Helper()
	if n, l, e := Parse(body); n != 0 || len(l) != 0 || e != api.ErrCorrupt {
		t.Errorf("Parse(%x) = %d, %v, %d", body, n, l, e)
	}
}

// outside are numbers that four bytes do not hold.
func outside() []int {
	return []int{-1, -2, -greatest, greatest + 1, greatest + 2, 1<<32 + 5, 1 << 40, 1 << 62, low, low + 1, high}
}

func TestExamples(t *testing.T) {
	if n := Pages(many(30)); n != 2 {
		t.Errorf("Pages of 30 runs = %d", n)
	}
	const want = "\x00\x00\x00\x07\x00\x01\x00\x00\x00\x01\x00\x00\x00\x03"
	if s, e := Body(7, list(1, 3)); s != want || e != api.OK {
		t.Errorf("Body(7, 1-3) = %x, %d", s, e)
	}
	parses(t, want, 7, list(1, 3))
}

func TestPages(t *testing.T) {
	for n := range 300 {
		want := 0
		for 29*want < n {
			want++
		}
		if got := Pages(many(n)); got != want {
			t.Errorf("Pages of %d runs = %d, want %d", n, got, want)
		}
	}
	if got := Pages(many(29 * 16382)); got != 16382 {
		t.Errorf("Pages = %d", got)
	}
}

// What counts is the set: runs that are empty, or without a number that a set may have, or one with others, need no place.
func TestPagesAreThoseOfTheSet(t *testing.T) {
	var touching, upset []api.Run
	for i := range 100 {
		touching = append(touching, api.Run{From: 99 - i, To: 99 - i})
		upset = append(upset, api.Run{From: i + 1, To: i})
	}
	for _, c := range []struct {
		l    []api.Run
		want int
	}{
		{nil, 0},
		{[]api.Run{}, 0},
		{touching, 1},
		{upset, 0},
		{list(-9, -1, greatest+1, high), 0},
		{list(low, high), 1},
		{list(high, low), 0},
		{slices.Concat(many(29), upset, many(29)), 1},
		{slices.Concat(many(29), list(0, 0)), 1},
		{slices.Concat(many(29), list(2, 4)), 1},
		{slices.Concat(many(29), list(1000, 1000)), 2},
		{slices.Concat(many(29), list(1000, 1000, -5, -1, 1001, 1002, 1001, high)), 2},
		{slices.Concat(many(29), list(greatest, greatest)), 2},
		{slices.Concat(many(29), list(greatest+1, greatest+1)), 1},
		{slices.Concat(many(3000), list(low, high)), 1},
	} {
		if got := Pages(c.l); got != c.want {
			t.Errorf("Pages(%v) = %d, want %d", c.l, got, c.want)
		}
	}
}

func TestBodies(t *testing.T) {
	for n := range PerPage + 1 {
		for _, next := range []int{0, 1, 2, 7, 255, 256, 16383, 1<<24 + 5, 1 << 31, greatest - 1, greatest} {
			bodyIs(t, next, many(n))
		}
	}
	bodyIs(t, 0, list(0, 0))
	bodyIs(t, 3, list(0, greatest))
	bodyIs(t, 3, list(greatest, greatest))
	bodyIs(t, greatest, slices.Repeat(list(greatest-1, greatest), PerPage))
	if s, _ := Body(0, many(PerPage)); len(s) != 238 {
		t.Errorf("a full body has %d bytes", len(s))
	}
	if s, _ := Body(0, nil); s != "\x00\x00\x00\x00\x00\x00" {
		t.Errorf("an empty body is %x", s)
	}
}

// A body's runs stand as they are, whatever set they stand for.
func TestABodyIsNotPutInOrder(t *testing.T) {
	bodyIs(t, 4, list(9, 12, 1, 3))
	bodyIs(t, 4, list(1, 3, 4, 6))
	bodyIs(t, 4, list(1, 9, 2, 3, 1, 9))
	bodyIs(t, 4, slices.Repeat(list(0, greatest), PerPage))
	bodyIs(t, 4, slices.Repeat(list(5, 5), PerPage))
}

func TestNoBodies(t *testing.T) {
	for _, n := range outside() {
		bodyErr(t, n, nil)
		bodyErr(t, n, list(1, 3))
		bodyErr(t, 0, list(n, n))
		bodyErr(t, 0, list(n, 3))
		bodyErr(t, 0, list(3, n))
		bodyErr(t, 0, list(0, 5, 7, n))
		bodyErr(t, 0, list(n, greatest, 7, 8))
	}
	for _, l := range [][]api.Run{list(3, 2), list(1, 0), list(greatest, 0), list(greatest, greatest-1), list(1, 2, 3, 4, 6, 5), list(6, 5, 1, 2)} {
		bodyErr(t, 0, l)
		bodyErr(t, 9, l)
	}
	for _, n := range []int{30, 31, 58, 256, 65535, 65536, 65536 + 3} {
		bodyErr(t, 0, many(n))
		bodyErr(t, 0, slices.Repeat(list(4, 4), n))
	}
}

func TestWhatIsNoBody(t *testing.T) {
	for _, s := range []string{
		bodyOf(0, 0, nil), bodyOf(7, 1, list(1, 3)), bodyOf(7, 2, list(1, 3, 9, 9)),
		bodyOf(0, 3, make([]api.Run, 3)), bodyOf(greatest, PerPage, many(PerPage)),
	} {
		for cut := range len(s) {
			parseErr(t, s[:cut])
		}
		for _, more := range []string{"\x00", "\x01", strings.Repeat("\x00", 8), strings.Repeat("\x00", 240-min(len(s), 239)), strings.Repeat("\xff", 256)} {
			parseErr(t, s+more)
		}
	}
	for _, l := range [][]api.Run{list(3, 2), list(1, 0), list(greatest, 0), list(1, 2, 6, 5), list(6, 5, 1, 2)} {
		parseErr(t, bodyOf(4, len(l), l))
	}
	parseErr(t, strings.Repeat("\xff", 238))
	parseErr(t, strings.Repeat("\x00", 240))
}

// A body says just how many runs it has.
func TestABodysCount(t *testing.T) {
	for n := range PerPage + 1 {
		for count := range 300 {
			if s := bodyOf(7, count, many(n)); count == n {
				parses(t, s, 7, many(n))
			} else {
				parseErr(t, s)
			}
		}
		parseErr(t, bodyOf(7, 256+n, many(n)))
		parseErr(t, bodyOf(7, 65535, many(n)))
	}
	for _, n := range []int{30, 31, 100, 65535} {
		parseErr(t, bodyOf(7, n, many(n)))
		parseErr(t, bodyOf(7, PerPage, many(n)))
	}
}

func TestArgumentsStayAsTheyAreAndAnswersShareNothing(t *testing.T) {
	l := list(9, 12, 1, 3, 4, 4)
	kept := slices.Clone(l)
	Pages(l)
	s, _ := Body(7, l)
	f := file(9)
	ids := []int{5, 3}
	Write(f, l, ids)
	if !slices.Equal(l, kept) || !slices.Equal(ids, []int{5, 3}) {
		t.Errorf("%v, %v", l, ids)
	}
	l[0], l[1] = api.Run{}, api.Run{}
	ids[0], ids[1] = 0, 0
	parses(t, s, 7, kept)
	_, first, _ := Parse(s)
	first[0] = api.Run{From: 77, To: 78}
	parses(t, s, 7, kept)
	reads(t, f, 5, list(1, 4, 9, 12), []int{5, 3})
	set, pages, _ := Read(f, 5)
	set[0], pages[0] = api.Run{}, 0
	reads(t, f, 5, list(1, 4, 9, 12), []int{5, 3})
}
