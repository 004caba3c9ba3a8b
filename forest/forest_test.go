package forest

import (
	"math"
	"math/rand"
	"slices"
	"testing"

	"rootstock/adj"
	"rootstock/alloc"
	"rootstock/api"
	"rootstock/cowtree"
	"rootstock/tour"
)

func TestExamples(t *testing.T) {
	f := New(newTree(80))
	for _, e := range [][2]int{{1, 2}, {2, 3}, {1, 3}} {
		if err := f.Add(e[0], e[1]); err != api.OK {
			t.Fatal(e, err)
		}
	}
	if err := f.Remove(1, 2); err != api.OK {
		t.Fatal(err)
	}
	if ok, err := f.Joined(1, 2); !ok || err != api.OK {
		t.Error(ok, err)
	}
	if err := f.Remove(2, 3); err != api.OK {
		t.Fatal(err)
	}
	if ok, err := f.Joined(1, 2); ok || err != api.OK {
		t.Error(ok, err)
	}
	if n, err := f.Size(1); n != 2 || err != api.OK {
		t.Error(n, err)
	}
}

// graph is one of edges that are added in that order.
func graph(t *testing.T, pairs ...[2]int) (*cowtree.Tree, *Forest, plain) {
	t.Helper()
	u := newTree(2000)
	f, p := New(u), plain{}
	adds(t, f, p, pairs...)
	return u, f, p
}

// TestBridges: which edge joins again what fell apart.
func TestBridges(t *testing.T) {
	square := [][2]int{{1, 2}, {2, 3}, {3, 4}}
	for name, c := range map[string]struct {
		add    [][2]int
		u, v   int
		bridge [2]int // noughts: none
	}{
		"the first of its vertices":              {[][2]int{{5, 6}, {6, 7}, {7, 1}, {1, 2}, {2, 3}, {3, 4}, {4, 9}, {6, 4}, {5, 9}, {7, 3}}, 7, 1, [2]int{5, 9}},
		"the least vertex beside it":             {[][2]int{{5, 6}, {6, 1}, {1, 2}, {2, 3}, {3, 4}, {5, 4}, {5, 3}, {5, 2}, {6, 2}}, 6, 1, [2]int{5, 2}},
		"the smaller tree, v's":                  {[][2]int{{1, 2}, {2, 3}, {3, 9}, {9, 8}, {1, 8}, {3, 8}, {2, 8}, {1, 9}}, 3, 9, [2]int{8, 1}},
		"the smaller tree, u's":                  {[][2]int{{1, 2}, {2, 3}, {3, 9}, {9, 8}, {1, 8}, {3, 8}, {2, 8}, {1, 9}}, 9, 3, [2]int{8, 1}},
		"of one size, u's":                       {append(path(6), [2]int{0, 5}, [2]int{1, 3}), 2, 3, [2]int{0, 5}},
		"of one size, u's, which is the greater": {append(path(6), [2]int{0, 5}, [2]int{1, 3}), 3, 2, [2]int{3, 1}},
		"of one vertex each":                     {[][2]int{{1, 2}}, 2, 1, [2]int{}},
		"none, both have edges":                  {append(square, [2]int{5, 1}, [2]int{5, 2}, [2]int{4, 6}, [2]int{3, 6}), 2, 3, [2]int{}},
		"not by an edge in the tree":             {append(square, [2]int{0, 1}, [2]int{0, 2}, [2]int{2, 4}), 3, 2, [2]int{4, 2}},
		"the same tree, not an end of the edge":  {[][2]int{{0, 1}, {1, 2}, {2, 3}, {3, 4}, {4, 5}, {0, 2}, {1, 4}, {0, 3}}, 2, 3, [2]int{0, 3}},
		"the greatest of all":                    {[][2]int{{greatest, 0}, {0, 1}, {1, greatest}}, greatest, 0, [2]int{greatest, 1}},
	} {
		u, f, p := graph(t, c.add...)
		forest := p.pairs(true)
		removes(t, f, p, [2]int{c.u, c.v})
		forest = slices.DeleteFunc(forest, func(e api.Pair) bool { return e == pair(c.u, c.v) })
		l, err := f.Spanning()
		l = slices.DeleteFunc(l, func(e api.Pair) bool { return slices.Contains(forest, e) })
		var want []api.Pair
		if c.bridge != [2]int{} {
			want = append(want, pair(c.bridge[0], c.bridge[1]))
		}
		if err != api.OK || !slices.Equal(l, want) {
			t.Error(name, l, err)
		}
		checkKept(t, u, p)
		checkAsked(t, f, p, 0, 1, 2, 3, 4, 5, 6, 7, 8, 9, greatest)
	}
}

// TestSpare: an edge that joins nothing is none of the forest, nor does it change that when it goes.
func TestSpare(t *testing.T) {
	u, f, p := graph(t, [2]int{3, 2}, [2]int{2, 1})
	was, _ := f.Walk(1)
	adds(t, f, p, [2]int{3, 1})
	if l, err := f.Spanning(); !slices.Equal(l, []api.Pair{{U: 1, V: 2}, {U: 2, V: 3}}) || err != api.OK {
		t.Error(l, err)
	}
	checkKept(t, u, p)
	removes(t, f, p, [2]int{1, 3})
	if l, err := f.Walk(1); !slices.Equal(l, was) || err != api.OK {
		t.Error(l, err, was)
	}
	checkKept(t, u, p)
	removes(t, f, p, [2]int{1, 2}, [2]int{2, 3})
	if u.Root() != 0 || u.Err() != api.OK {
		t.Error(u.Root(), u.Err())
	}
}

func TestNoEdges(t *testing.T) {
	u := newTree(40)
	checkAsked(t, New(u), plain{}, 0, 1, 7, greatest)
	if u.Root() != 0 {
		t.Error(u.Root())
	}
}

// asks are all calls about vertices that change nothing, with whether all that they told was noughts.
func asks(f *Forest, u, v int) map[string]func() (bool, api.Errno) {
	return map[string]func() (bool, api.Errno){
		"Has":      func() (bool, api.Errno) { ok, err := f.Has(u, v); return !ok, err },
		"Joined":   func() (bool, api.Errno) { ok, err := f.Joined(u, v); return !ok, err },
		"Size":     func() (bool, api.Errno) { n, err := f.Size(u); return n == 0, err },
		"Members":  func() (bool, api.Errno) { l, err := f.Members(u); return len(l) == 0, err },
		"Edges":    func() (bool, api.Errno) { l, err := f.Edges(); return len(l) == 0, err },
		"Spanning": func() (bool, api.Errno) { l, err := f.Spanning(); return len(l) == 0, err },
	}
}

// refused holds that all calls, but those named, tell an error, and noughts.
func refused(t *testing.T, f *Forest, u, v int, want api.Errno, but ...string) {
	t.Helper()
	for name, ask := range asks(f, u, v) {
		if slices.Contains(but, name) {
			continue
		}
		if noughts, err := ask(); !noughts || err != want {
			t.Errorf("%s(%d, %d): %v, not %v", name, u, v, err, want)
		}
	}
	if e, g := f.Add(u, v), f.Remove(u, v); e != want || g != want {
		t.Errorf("Add, Remove(%d, %d): %v, %v, not %v", u, v, e, g, want)
	}
}

// unchanged holds that a tree of keys has all that it had, on the same pages, and is not done with.
func unchanged(t *testing.T, u *cowtree.Tree) func() {
	t.Helper()
	root := u.Root()
	was, _ := u.Scan("", "")
	return func() {
		t.Helper()
		if is, err := u.Scan("", ""); err != api.OK || u.Err() != api.OK || u.Root() != root || !slices.Equal(is, was) {
			t.Fatal("something was changed", err, u.Err())
		}
	}
}

// TestNoVertex: a number that is no vertex is told first of all, of either place.
func TestNoVertex(t *testing.T) {
	u, f, p := graph(t, path(5)...)
	check := unchanged(t, u)
	for _, n := range []int{-1, math.MinInt, 1 << 20, 1<<20 + 1, 1<<32 - 1, 1 << 32, 1<<32 + 1, math.MaxInt} {
		// Whether the other one is a vertex or not, has edges or none, or is the same.
		for _, v := range []int{1, 77, 0, greatest, -1, 1 << 20, n} {
			refused(t, f, n, v, api.ErrVertex, "Edges", "Spanning")
			if e, g := f.Add(v, n), f.Remove(v, n); e != api.ErrVertex || g != api.ErrVertex {
				t.Error(v, n, e, g)
			}
			if ok, err := f.Has(v, n); ok || err != api.ErrVertex {
				t.Error(v, n, ok, err)
			}
			if ok, err := f.Joined(v, n); ok || err != api.ErrVertex {
				t.Error(v, n, ok, err)
			}
		}
	}
	check()
	checkAsked(t, f, p, 0, 1, 2, 3, 4, 5, greatest)
}

// TestRefused: the same vertex twice, edges that are there, and edges that are not; nothing is changed.
func TestRefused(t *testing.T) {
	u, f, p := graph(t, web(9)...)
	check := unchanged(t, u)
	for _, v := range []int{0, 1, 8, 9, greatest} {
		e, g := f.Add(v, v), f.Remove(v, v)
		if ok, err := f.Has(v, v); ok || err != api.ErrLoop || e != api.ErrLoop || g != api.ErrLoop {
			t.Error(v, ok, err, e, g)
		}
		if ok, err := f.Joined(v, v); !ok || err != api.OK {
			t.Error(v, ok, err)
		}
	}
	for v := range 12 {
		for w := range 12 {
			_, there := p[pair(v, w)]
			switch {
			case v == w:
			case there && f.Add(v, w) != api.ErrThere:
				t.Error(v, w)
			case !there && f.Remove(v, w) != api.ErrAbsent:
				t.Error(v, w)
			}
			check()
		}
	}
}

// TestAllGraphs: of all graphs of four vertices each edge is taken away, either way round, and those that are not there are put in.
func TestAllGraphs(t *testing.T) {
	l := [][2]int{{0, 1}, {1, 3}, {2, 3}, {0, 3}, {1, 2}, {0, 2}}
	for some := range 1 << len(l) {
		var pairs [][2]int
		for i, e := range l {
			if some>>i&1 > 0 {
				pairs = append(pairs, e)
			}
		}
		for i, e := range l {
			u, f, p := graph(t, pairs...)
			if some&1 > 0 {
				e = [2]int{e[1], e[0]}
			}
			if some>>i&1 > 0 {
				removes(t, f, p, e)
			} else {
				adds(t, f, p, e)
			}
			checkKept(t, u, p)
			checkAsked(t, f, p, 0, 1, 2, 3, 4)
		}
	}
}

// TestDense: a graph of which each vertex has an edge with each one, taken apart edge by edge.
func TestDense(t *testing.T) {
	r := rand.New(rand.NewSource(1))
	var l [][2]int
	for v := range 14 {
		for w := range v {
			l = append(l, [2]int{v * 70000, w * 70000})
		}
	}
	r.Shuffle(len(l), func(i, j int) { l[i], l[j] = l[j], l[i] })
	u, f, p := graph(t, l...)
	for i, e := range l {
		removes(t, f, p, [2]int{e[i%2], e[1-i%2]})
		checkKept(t, u, p)
		checkAsked(t, f, p, e[0], e[1], 0, 70000)
	}
	if u.Root() != 0 {
		t.Error(u.Root())
	}
}

// TestOtherKeys: keys of others stay as they are, and are not looked at.
func TestOtherKeys(t *testing.T) {
	u := newTree(400)
	others := []string{"@", "@\xff", "B", "B\x00\x00\x00\x01\x00\x00\x00\x02", "M\xff\xff", "O", "a", "\xff", "\x00"}
	for _, k := range others {
		u.Put(k, "x"+k)
	}
	f, p := New(u), plain{}
	adds(t, f, p, web(12)...)
	removes(t, f, p, [2]int{1, 0}, [2]int{2, 1})
	checkAsked(t, f, p, 0, 1, 2, 3, 11)
	for e := range p {
		removes(t, f, p, [2]int{e.U, e.V})
	}
	l, err := u.Scan("", "")
	if err != api.OK || len(l) != len(others) {
		t.Error(l, err)
	}
	for _, k := range others {
		if v, ok, err := u.Get(k); v != "x"+k || !ok || err != api.OK {
			t.Errorf("%q: %q, %v, %v", k, v, ok, err)
		}
	}
}

// TestSameTree: what stands for one tree of keys twice tells the same; edges and tours are there as their layers have them.
func TestSameTree(t *testing.T) {
	u, f, p := graph(t, web(12)...)
	checkAsked(t, New(u), p, count(13)...)
	removes(t, New(u), p, [2]int{1, 0})
	adds(t, New(u), p, [2]int{30, 31})
	checkAsked(t, f, p, 0, 1, 30, 31)
	for e, tree := range p {
		if is, there, err := adj.New(u).Get(e.V, e.U); is != tree || !there || err != api.OK {
			t.Error(e, is, there, err)
		}
		if is, err := tour.New(u).Edge(e.V, e.U); is != tree || err != api.OK {
			t.Error(e, is, err)
		}
	}
}

// TestPromoted: what a forest's tours tell, the forest tells too.
func TestPromoted(t *testing.T) {
	u, f, _ := graph(t, web(12)...)
	var asked interface {
		Joined(u, v int) (bool, api.Errno)
		Size(v int) (int, api.Errno)
		Members(v int) ([]int, api.Errno)
	} = f.Tour
	for v := range 13 {
		n, _ := asked.Size(v)
		m, _ := f.Size(v)
		l, _ := asked.Members(v)
		k, _ := f.Members(v)
		w, _ := f.Walk(v)
		x, _ := tour.New(u).Walk(v)
		if n != m || !slices.Equal(l, k) || !slices.Equal(w, x) || len(l) != n {
			t.Error(v, n, m, l, k, w, x)
		}
	}
}

// TestNil: a tree that is nil has no keys, and no page is left for any; then it is done with. A forest that is nil, or a zero value, is that of such a tree.
func TestNil(t *testing.T) {
	var none Forest
	for _, f := range []*Forest{New(nil), &none, new(Forest)} {
		checkAsked(t, f, plain{}, 0, 1, greatest)
		if e, g, h := f.Remove(1, 2), f.Remove(1, 1), f.Add(-1, 2); e != api.ErrAbsent || g != api.ErrLoop || h != api.ErrVertex {
			t.Error(e, g, h)
		}
		if err := f.Add(1, 2); err != api.ErrFull {
			t.Error(err)
		}
		refused(t, f, 1, 2, api.ErrFull)
		refused(t, f, 1, 1, api.ErrLoop, "Joined", "Size", "Members", "Edges", "Spanning")
	}
	var f *Forest
	if ok, err := f.Has(1, 2); ok || err != api.OK {
		t.Error(ok, err)
	}
	if l, err := f.Edges(); len(l) != 0 || err != api.OK {
		t.Error(l, err)
	}
	if l, err := f.Spanning(); len(l) != 0 || err != api.OK {
		t.Error(l, err)
	}
	for range 2 {
		if e, g := f.Add(1, 2), f.Remove(1, 2); e != api.ErrFull || g != api.ErrAbsent {
			t.Error(e, g)
		}
	}
}

// TestNothingShared: what was told may be changed by anybody.
func TestNothingShared(t *testing.T) {
	_, f, p := graph(t, web(12)...)
	e, _ := f.Edges()
	s, _ := f.Spanning()
	m, _ := f.Members(1)
	clear(e)
	clear(s)
	clear(m)
	checkAsked(t, f, p, count(13)...)
}

// TestOldRoots: a graph that was flushed stays as it was, whatever is changed from there.
func TestOldRoots(t *testing.T) {
	file := newFile(4000)
	x := alloc.New(file, nil, 2)
	u := cowtree.New(x, 0)
	f, p := New(u), plain{}
	adds(t, f, p, web(20)...)
	x.Flush()
	first, was := u.Root(), p.pairs(false)
	x = alloc.New(file, nil, x.Pages())
	u = cowtree.New(x, first)
	f = New(u)
	for i, e := range was {
		if i%2 > 0 {
			removes(t, f, p, [2]int{e.V, e.U})
		}
	}
	adds(t, f, p, [2]int{50, 51})
	x.Flush()
	checkAsked(t, f, p, count(21)...)
	old := New(cowtree.New(alloc.New(file, nil, x.Pages()), first))
	if l, err := old.Edges(); !slices.Equal(l, was) || err != api.OK {
		t.Error(l, err)
	}
	if n, err := old.Size(0); n != 20 || err != api.OK {
		t.Error(n, err)
	}
}

// TestFewReads: who is connected is told, and an edge goes or comes, without going through all edges: of two parts the smaller one alone is looked at.
func TestFewReads(t *testing.T) {
	file := newFile(16000)
	x := alloc.New(file, nil, 2)
	u := cowtree.New(x, 0)
	f := New(u)
	const n = 1500
	for i := range n {
		if e, g := f.Add(i, i+1), f.Add(i, i+2); e != api.OK || g == api.ErrFull {
			t.Fatal(i, e, g)
		}
	}
	if err := x.Flush(); err != api.OK {
		t.Fatal(err)
	}
	l, _ := f.Spanning()
	if len(l) != n+1 {
		t.Fatal(len(l))
	}
	root := u.Root()
	for name, do := range map[string]func(f *Forest) api.Errno{
		"Joined": func(f *Forest) api.Errno { _, err := f.Joined(0, n); return err },
		"Size":   func(f *Forest) api.Errno { _, err := f.Size(700); return err },
		"Add":    func(f *Forest) api.Errno { return f.Add(3, 1200) },
		"AddNew": func(f *Forest) api.Errno { return f.Add(3, 1<<19) },
		"Spare":  func(f *Forest) api.Errno { return f.Remove(701, 702) },
		"Small":  func(f *Forest) api.Errno { return f.Remove(n, n-1) },
		"Few":    func(f *Forest) api.Errno { return f.Remove(4, 5) },
	} {
		w := cowtree.New(alloc.New(file, nil, x.Pages()), root)
		was := file.Reads()
		if err := do(New(w)); err != api.OK {
			t.Error(name, err)
		}
		if reads := file.Reads() - was; reads > x.Pages()/2 {
			t.Error(name, "reads", reads, "times, there are", x.Pages(), "pages")
		}
	}
}
