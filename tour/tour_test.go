package tour

import (
	"math"
	"slices"
	"testing"

	"rootstock/alloc"
	"rootstock/api"
	"rootstock/cowtree"
	"rootstock/seq"
)

func TestExamples(t *testing.T) {
	f := New(newTree(40))
	if e, g := f.Link(1, 2), f.Link(2, 3); e != api.OK || g != api.OK {
		t.Fatal(e, g)
	}
	if n, err := f.Size(1); n != 3 || err != api.OK {
		t.Error(n, err)
	}
	if l, err := f.Members(3); !slices.Equal(l, []int{1, 2, 3}) || err != api.OK {
		t.Error(l, err)
	}
	if err := f.Cut(1, 2); err != api.OK {
		t.Fatal(err)
	}
	if ok, err := f.Joined(1, 3); ok || err != api.OK {
		t.Error(ok, err)
	}
	if n, err := f.Size(1); n != 1 || err != api.OK {
		t.Error(n, err)
	}
}

// TestTours: how two are linked, and how one is cut, token by token.
func TestTours(t *testing.T) {
	k := func(a, b int) api.Token { return api.Token{A: a, B: b} }
	u := newTree(80)
	f := New(u)
	is := func(v int, want ...api.Token) {
		t.Helper()
		if l, err := f.Walk(v); !slices.Equal(l, want) || err != api.OK {
			t.Error(v, l, err)
		}
	}
	f.Link(1, 2)
	is(1, k(1, 1), k(1, 2), k(2, 2), k(2, 1))
	f.Link(2, 3)
	is(3, k(2, 2), k(2, 1), k(1, 1), k(1, 2), k(2, 3), k(3, 3), k(3, 2))
	f.Link(5, 4)
	f.Link(4, 1)
	is(5, k(4, 4), k(4, 5), k(5, 5), k(5, 4), k(4, 1), k(1, 1), k(1, 2), k(2, 3), k(3, 3), k(3, 2), k(2, 2), k(2, 1), k(1, 4))
	// The way back stands ahead, and there is something ahead of it and behind it.
	f.Cut(2, 1)
	is(4, k(4, 4), k(4, 5), k(5, 5), k(5, 4), k(4, 1), k(1, 1), k(1, 4))
	is(3, k(2, 3), k(3, 3), k(3, 2), k(2, 2))
	f.Cut(3, 2)
	is(2)
	is(3)
	f.Cut(1, 4)
	is(1)
	is(5, k(4, 4), k(4, 5), k(5, 5), k(5, 4))
	f.Cut(4, 5)
	if u.Root() != 0 || u.Err() != api.OK {
		t.Error(u.Root(), u.Err())
	}
}

func TestNoEdges(t *testing.T) {
	u := newTree(40)
	f := New(u)
	checkAsked(t, f, newPlain(), 0, 1, 7, greatest)
	if u.Root() != 0 {
		t.Error(u.Root())
	}
}

// asks are all calls that change nothing, with whether all that they told was noughts.
func asks(f *Tour, u, v int) map[string]func() (bool, api.Errno) {
	return map[string]func() (bool, api.Errno){
		"Joined":  func() (bool, api.Errno) { ok, err := f.Joined(u, v); return !ok, err },
		"Edge":    func() (bool, api.Errno) { ok, err := f.Edge(u, v); return !ok, err },
		"Size":    func() (bool, api.Errno) { n, err := f.Size(u); return n == 0, err },
		"Rep":     func() (bool, api.Errno) { n, err := f.Rep(u); return n == 0, err },
		"Members": func() (bool, api.Errno) { l, err := f.Members(u); return len(l) == 0, err },
		"Walk":    func() (bool, api.Errno) { l, err := f.Walk(u); return len(l) == 0, err },
	}
}

// refused holds that all calls tell an error, and noughts.
func refused(t *testing.T, f *Tour, u, v int, want api.Errno) {
	t.Helper()
	for name, ask := range asks(f, u, v) {
		if noughts, err := ask(); !noughts || err != want {
			t.Errorf("%s(%d, %d): %v, not %v", name, u, v, err, want)
		}
	}
	if err := f.Link(u, v); err != want {
		t.Errorf("Link(%d, %d): %v, not %v", u, v, err, want)
	}
	if err := f.Cut(u, v); err != want {
		t.Errorf("Cut(%d, %d): %v, not %v", u, v, err, want)
	}
}

// unchanged holds that a tree of keys has all that it had, on the same pages.
func unchanged(t *testing.T, u *cowtree.Tree) func() {
	t.Helper()
	root := u.Root()
	was, _ := u.Scan("", "")
	return func() {
		t.Helper()
		if is, err := u.Scan("", ""); err != api.OK || u.Err() != api.OK || u.Root() != root || !slices.Equal(is, was) {
			t.Error("something was changed", err, u.Err())
		}
	}
}

// TestNoVertex: a number that is no vertex is told first of all, of either place.
func TestNoVertex(t *testing.T) {
	u := newTree(80)
	f, p := New(u), newPlain()
	links(t, f, p, path(5)...)
	check := unchanged(t, u)
	for _, n := range []int{-1, math.MinInt, 1 << 20, 1<<20 + 1, 1<<32 - 1, 1 << 32, 1<<32 + 1, math.MaxInt} {
		// Whether the other one is a vertex or not, has edges or none, or is the same.
		for _, v := range []int{1, 77, 0, greatest, -1, 1 << 20, n} {
			refused(t, f, n, v, api.ErrVertex)
		}
		for _, v := range []int{1, 77, 0, greatest} {
			if ok, err := f.Joined(v, n); ok || err != api.ErrVertex {
				t.Error(v, n, ok, err)
			}
			if ok, err := f.Edge(v, n); ok || err != api.ErrVertex {
				t.Error(v, n, ok, err)
			}
			if e, g := f.Link(v, n), f.Cut(v, n); e != api.ErrVertex || g != api.ErrVertex {
				t.Error(v, n, e, g)
			}
		}
	}
	check()
	checkAsked(t, f, p, 0, 1, 2, 3, 4, 5, greatest)
}

// TestLeastAndGreatest: vertices at both ends of what there is.
func TestLeastAndGreatest(t *testing.T) {
	u := newTree(80)
	f, p := New(u), newPlain()
	links(t, f, p, [2]int{greatest, 0}, [2]int{0, 1}, [2]int{greatest - 1, greatest})
	all := []int{0, 1, 2, greatest - 2, greatest - 1, greatest}
	checkAsked(t, f, p, all...)
	cuts(t, f, p, [2]int{0, greatest})
	checkAsked(t, f, p, all...)
	checkKept(t, u, p)
}

// TestWrong: the other errors of Link and Cut; none of them has changed anything.
func TestWrong(t *testing.T) {
	u := newTree(80)
	f, p := New(u), newPlain()
	links(t, f, p, path(4)...)
	links(t, f, p, [2]int{10, 11})
	check := unchanged(t, u)
	for _, v := range []int{0, 1, 3, 10, 77, greatest} {
		if e, g := f.Link(v, v), f.Cut(v, v); e != api.ErrLoop || g != api.ErrLoop {
			t.Error(v, e, g)
		}
		check()
	}
	for u := range 4 {
		for v := range 4 {
			if u != v && f.Link(u, v) != api.ErrArg {
				t.Error(u, v)
			}
		}
	}
	check()
	for _, e := range [][2]int{{0, 2}, {2, 0}, {3, 1}, {0, 10}, {10, 0}, {0, 77}, {77, 0}, {77, 78}} {
		if err := f.Cut(e[0], e[1]); err != api.ErrAbsent {
			t.Error(e, err)
		}
	}
	check()
	// What is gone is not there once more, and may come again.
	cuts(t, f, p, [2]int{2, 1})
	if e, g := f.Cut(2, 1), f.Cut(1, 2); e != api.ErrAbsent || g != api.ErrAbsent {
		t.Error(e, g)
	}
	links(t, f, p, [2]int{2, 1})
	checkAsked(t, f, p, 0, 1, 2, 3, 4, 10, 11)
}

// TestBothWays: an edge is of both its vertices, whichever comes first.
func TestBothWays(t *testing.T) {
	for _, e := range [][2]int{{1, 2}, {2, 1}} {
		for _, g := range [][2]int{{1, 2}, {2, 1}} {
			u := newTree(40)
			f, p := New(u), newPlain()
			links(t, f, p, e, [2]int{2, 5}, [2]int{6, 1})
			checkAsked(t, f, p, 1, 2, 5, 6)
			cuts(t, f, p, g)
			checkAsked(t, f, p, 1, 2, 5, 6)
			checkKept(t, u, p)
		}
	}
}

// TestEveryCut: trees of some shapes, cut at each edge, both ways, and linked there again, both ways.
func TestEveryCut(t *testing.T) {
	for _, shape := range []func(int) [][2]int{path, star, twigs} {
		for _, n := range []int{2, 3, 4, 9, 20} {
			u := newTree(400)
			f, p := New(u), newPlain()
			links(t, f, p, shape(n)...)
			checkAsked(t, f, p, count(n)...)
			for i, e := range shape(n) {
				if i%2 > 0 {
					e[0], e[1] = e[1], e[0]
				}
				cuts(t, f, p, e)
				checkAsked(t, f, p, count(n)...)
				checkKept(t, u, p)
				if i%3 > 0 {
					e[0], e[1] = e[1], e[0]
				}
				links(t, f, p, e)
				checkAsked(t, f, p, count(n)...)
			}
			for _, e := range shape(n) {
				cuts(t, f, p, e)
			}
			checkAsked(t, f, p, count(n)...)
			if u.Root() != 0 {
				t.Error("a tree without edges has tokens", u.Root())
			}
		}
	}
}

// TestEveryLink: two trees of some shapes, linked by any two of their vertices.
func TestEveryLink(t *testing.T) {
	for u := range 8 {
		for v := range 8 {
			tree := newTree(400)
			f, p := New(tree), newPlain()
			links(t, f, p, twigs(8)...)
			for _, e := range path(8) {
				links(t, f, p, [2]int{e[0] + 100, e[1] + 100})
			}
			links(t, f, p, [2]int{u, v + 100})
			checkAsked(t, f, p, 0, u, 7, 100, v+100, 107)
			checkKept(t, tree, p)
		}
	}
}

// TestRep: it stays the same while nothing but questions, and what is refused, comes; and it is another one in another tree.
func TestRep(t *testing.T) {
	f, p := New(newTree(400)), newPlain()
	links(t, f, p, twigs(20)...)
	links(t, f, p, [2]int{50, 51})
	was, _ := f.Rep(0)
	for range 2 {
		for v := range 20 {
			if r, err := f.Rep(v); r != was || err != api.OK {
				t.Error(v, r, was, err)
			}
			f.Link(v, 3)
			f.Cut(v, 50)
			f.Cut(v, v)
			f.Members(v)
		}
	}
	if r, err := f.Rep(50); r != 50 && r != 51 || err != api.OK {
		t.Error(r, err)
	}
	if r, err := f.Rep(77); r != 77 || err != api.OK {
		t.Error(r, err)
	}
}

// TestOtherKeys: what else the tree of keys has is not touched.
func TestOtherKeys(t *testing.T) {
	u := newTree(400)
	others := []api.Entry{
		{Key: "A\x00\x00\x00\x01\x00\x00\x00\x02", Value: "t"}, {Key: "M", Value: "m"}, {Key: "N", Value: "n"},
		{Key: "N\x00\x00\x00\x01\x00\x00\x00", Value: "shorter"}, {Key: "N\x00\x00\x00\x01\x00\x00\x00\x01\x00", Value: "longer"}, {Key: "O", Value: ""},
	}
	for _, e := range others {
		if err := u.Put(e.Key, e.Value); err != api.OK {
			t.Fatal(err)
		}
	}
	f, p := New(u), newPlain()
	links(t, f, p, path(20)...)
	checkAsked(t, f, p, count(20)...)
	cuts(t, f, p, path(20)...)
	if l, err := u.Scan("", ""); err != api.OK || !slices.Equal(l, others) {
		t.Error(l, err)
	}
}

// TestByHand: a forest that somebody else has put into the tree of keys, by sequences, is read, and gone on from.
func TestByHand(t *testing.T) {
	u := newTree(80)
	s := seq.New(u)
	l := []api.Token{{A: 3, B: 9}, {A: 9, B: 9}, {A: 9, B: 3}, {A: 3, B: 4}, {A: 4, B: 4}, {A: 4, B: 3}, {A: 3, B: 3}}
	for i, k := range l {
		if i++; s.Make(k) != api.OK || i > 1 && s.Join(l[0], k) != api.OK {
			t.Fatal(k)
		}
	}
	f, p := New(u), &plain{edges: edges{3: {9, 4}, 9: {3}, 4: {3}}, tours: [][]api.Token{l}}
	checkAsked(t, f, p, 3, 4, 5, 9)
	links(t, f, p, [2]int{5, 4})
	cuts(t, f, p, [2]int{3, 9})
	checkAsked(t, f, p, 3, 4, 5, 9)
	checkKept(t, u, p)
}

// TestNewOfNil: nil counts as a tree of a change of no file: no page is left for any edge.
func TestNewOfNil(t *testing.T) {
	var none *Tour
	for name, f := range map[string]*Tour{"nil": New(nil), "zero": {}, "none": none} {
		checkAsked(t, f, newPlain(), 0, 1, greatest)
		if err := f.Cut(1, 2); err != api.ErrAbsent {
			t.Error(name, err)
		}
		if err := f.Link(1, 1); err != api.ErrLoop {
			t.Error(name, err)
		}
		if err := f.Link(1, 2); err != api.ErrFull {
			t.Error(name, err)
		}
		if f == nil {
			continue
		}
		// By that its tree is done with.
		refused(t, f, 1, 2, api.ErrFull)
		refused(t, f, -1, 1, api.ErrVertex)
	}
}

// TestTwoOfOneTree: nothing is kept but in the tree of keys.
func TestTwoOfOneTree(t *testing.T) {
	u := newTree(400)
	f, g, p := New(u), New(u), newPlain()
	links(t, f, p, path(5)...)
	checkAsked(t, g, p, count(6)...)
	cuts(t, g, p, [2]int{2, 3})
	checkAsked(t, f, p, count(6)...)
	links(t, f, p, [2]int{4, 0})
	checkAsked(t, g, p, count(6)...)
	// A forest of another tree knows nothing of it.
	checkAsked(t, New(newTree(40)), newPlain(), count(6)...)
}

// TestListsAreNew: what was answered shares nothing with what is kept.
func TestListsAreNew(t *testing.T) {
	f, p := New(newTree(400)), newPlain()
	links(t, f, p, path(5)...)
	w, _ := f.Walk(1)
	m, _ := f.Members(1)
	w[0], m[0] = api.Token{A: 9, B: 9}, 9
	alone, _ := f.Members(8)
	alone[0] = 9
	checkAsked(t, f, p, count(9)...)
}

// TestOldRoots: what a root stood for that was flushed is still there, whatever was done from it on.
func TestOldRoots(t *testing.T) {
	file := newFile(2000)
	x := alloc.New(file, nil, 2)
	u := cowtree.New(x, 0)
	old := newPlain()
	links(t, New(u), old, twigs(30)...)
	x.Flush()
	y := alloc.New(file, nil, x.Pages())
	v := cowtree.New(y, u.Root())
	is := old.copy()
	cuts(t, New(v), is, [2]int{0, 1}, [2]int{7, 2})
	links(t, New(v), is, [2]int{29, 5}, [2]int{40, 41})
	y.Flush()
	z := alloc.New(file, nil, y.Pages())
	checkAsked(t, New(cowtree.New(z, u.Root())), old, count(42)...)
	checkAsked(t, New(cowtree.New(z, v.Root())), is, count(42)...)
}

// reads is how many pages are read by some questions, and by some changes, of a row of so many vertices.
func reads(t *testing.T, n int) (asking, changing int) {
	t.Helper()
	file := newFile(8000)
	x := alloc.New(file, nil, 2)
	u := cowtree.New(x, 0)
	links(t, New(u), newPlain(), path(n)...)
	x.Flush()
	for _, v := range []int{1, n / 3, n / 2, n - 2} {
		f := New(cowtree.New(alloc.New(file, nil, x.Pages()), u.Root()))
		was := file.Disk.Reads()
		f.Joined(v, n/5)
		f.Edge(v, v+1)
		f.Size(v)
		f.Rep(v)
		asked := file.Disk.Reads()
		if e, g := f.Cut(v, v+1), f.Link(v, v+1); e != api.OK || g != api.OK {
			t.Fatal(v, e, g)
		}
		asking, changing = asking+asked-was, changing+file.Disk.Reads()-asked
	}
	return asking, changing
}

// TestFewReads: who asks of two vertices, or changes an edge, does not go through all of them: of eight times as many no more than three times as many pages are read.
func TestFewReads(t *testing.T) {
	a, b := reads(t, 100)
	c, d := reads(t, 800)
	if a == 0 || b == 0 || c > 3*a || d > 3*b {
		t.Error(a, b, c, d)
	}
}
