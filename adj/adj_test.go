package adj

import (
	"math"
	"slices"
	"testing"

	"rootstock/alloc"
	"rootstock/api"
	"rootstock/cowtree"
)

func TestExamples(t *testing.T) {
	a := New(newTree(40))
	if e, f := a.Set(2, 1, true), a.Set(2, 3, false); e != api.OK || f != api.OK {
		t.Fatal(e, f)
	}
	if l, err := a.Near(2); !slices.Equal(l, []Near{{1, true}, {3, false}}) || err != api.OK {
		t.Error(l, err)
	}
	if l, err := a.Edges(); !slices.Equal(l, []api.Pair{{U: 1, V: 2}, {U: 2, V: 3}}) || err != api.OK {
		t.Error(l, err)
	}
	if v, ok, err := a.Pick(2, nil); v != 3 || !ok || err != api.OK {
		t.Error(v, ok, err)
	}
}

// TestBytes: what a tree of keys has of edges, byte by byte.
func TestBytes(t *testing.T) {
	u := newTree(40)
	a := New(u)
	a.Set(1048575, 258, true)
	a.Set(0, 258, false)
	want := []api.Entry{
		{Key: "A\x00\x00\x00\x00\x00\x00\x01\x02", Value: "n"},
		{Key: "A\x00\x00\x01\x02\x00\x00\x00\x00", Value: "n"},
		{Key: "A\x00\x00\x01\x02\x00\x0f\xff\xff", Value: "t"},
		{Key: "A\x00\x0f\xff\xff\x00\x00\x01\x02", Value: "t"},
	}
	if l, err := u.Scan("", ""); err != api.OK || !slices.Equal(l, want) {
		t.Errorf("%q, %v", l, err)
	}
}

// odd are numbers that are no vertices.
func odd() []int {
	return []int{-1, math.MinInt, 1 << 20, 1<<20 + 1, 1<<32 - 1, 1 << 32, 1<<32 + 1, math.MaxInt}
}

func TestKey(t *testing.T) {
	some := []int{0, 1, 255, 256, 65535, 65536, greatest - 1, greatest}
	for _, u := range some {
		for _, v := range some {
			want := keyOf(u, v)
			if u == v {
				want = ""
			}
			if key := Key(u, v); key != want {
				t.Errorf("%d, %d: %q", u, v, key)
			}
			for _, tree := range []bool{false, true} {
				e := api.Entry{Key: keyOf(u, v), Value: map[bool]string{true: "t", false: "n"}[tree]}
				x, y, is, ok := Parse(e)
				if u == v && (x != 0 || y != 0 || is || ok) || u != v && (x != u || y != v || is != tree || !ok) {
					t.Error(u, v, x, y, is, ok)
				}
			}
		}
		for _, v := range odd() {
			if a, b, c := Key(u, v), Key(v, u), Key(v, v); a != "" || b != "" || c != "" {
				t.Errorf("%d, %d: %q, %q, %q", u, v, a, b, c)
			}
		}
	}
}

// noEdges are entries that are no edges'.
func noEdges() []api.Entry {
	right := keyOf(7, 3)
	l := []api.Entry{{}, {Key: right}, {Value: "t"}, {Key: "A", Value: "t"}, {Key: right + "\x00", Value: "t"}, {Key: right[:8], Value: "n"}, {Key: right[1:], Value: "n"}, {Key: "AA" + right[2:], Value: "n"}}
	for _, value := range []string{"x", "T", "N", "tt", "nn", "tn", "t\x00", "\x00t", " ", "\xff"} {
		l = append(l, api.Entry{Key: right, Value: value})
	}
	for _, first := range []string{"", "B", "N", "a", "@", "\x00", "\xff"} {
		l = append(l, api.Entry{Key: first + right[1:], Value: "t"})
	}
	for _, e := range [][2]int{{7, 7}, {0, 0}, {greatest, greatest}, {1 << 20, 3}, {3, 1 << 20}, {1 << 20, 1<<20 + 1}, {1<<32 - 1, 0}, {0, 1<<32 - 1}, {1<<32 - 1, 1<<32 - 1}} {
		l = append(l, api.Entry{Key: keyOf(e[0], e[1]), Value: "n"})
	}
	return l
}

func TestParseNoEdge(t *testing.T) {
	for _, e := range noEdges() {
		if u, v, tree, ok := Parse(e); u != 0 || v != 0 || tree || ok {
			t.Errorf("%q: %d, %d, %v, %v", e, u, v, tree, ok)
		}
	}
}

// asks are all calls that ask of vertices, with whether all that they told was noughts.
func asks(a *Adj, u, v int) map[string]func() (bool, api.Errno) {
	return map[string]func() (bool, api.Errno){
		"Get":     func() (bool, api.Errno) { tree, there, err := a.Get(u, v); return !tree && !there, err },
		"GetBack": func() (bool, api.Errno) { tree, there, err := a.Get(v, u); return !tree && !there, err },
		"Near":    func() (bool, api.Errno) { l, err := a.Near(u); return len(l) == 0, err },
		"Pick":    func() (bool, api.Errno) { v, ok, err := a.Pick(u, nil); return v == 0 && !ok, err },
		"PickBut": func() (bool, api.Errno) { v, ok, err := a.Pick(u, []int{v}); return v == 0 && !ok, err },
		"Edges":   func() (bool, api.Errno) { l, err := a.Edges(); return len(l) == 0, err },
	}
}

// refused holds that all calls tell an error, and noughts; those named are left out.
func refused(t *testing.T, a *Adj, u, v int, want api.Errno, but ...string) {
	t.Helper()
	for name, ask := range asks(a, u, v) {
		if slices.Contains(but, name) {
			continue
		}
		if noughts, err := ask(); !noughts || err != want {
			t.Errorf("%s(%d, %d): %v, not %v", name, u, v, err, want)
		}
	}
	for _, e := range [][2]int{{u, v}, {v, u}} {
		if x, y, z := a.Set(e[0], e[1], true), a.Set(e[0], e[1], false), a.Clear(e[0], e[1]); x != want || y != want || z != want {
			t.Error(e, x, y, z)
		}
	}
}

// unchanged holds that a tree of keys has all that it had, on the same pages.
func unchanged(t *testing.T, u *cowtree.Tree) func() {
	t.Helper()
	root := u.Root()
	was, _ := u.Scan("", "")
	return func() {
		t.Helper()
		if is, err := u.Scan("", ""); err != api.OK || u.Err() != api.OK || u.Root() != root || !slices.Equal(is, was) {
			t.Error("something was changed", err, u.Err())
		}
	}
}

// TestWrong: the errors of edge.Make come ahead of all else, and ErrAbsent behind them; none of them has changed anything.
func TestWrong(t *testing.T) {
	u := newTree(400)
	a, p := New(u), &plain{}
	sets(t, a, p, web(9)...)
	check := unchanged(t, u)
	for _, n := range odd() {
		for _, v := range []int{0, 1, 77, greatest, -1, 1 << 20, n} {
			refused(t, a, n, v, api.ErrVertex, "Edges")
		}
	}
	for _, v := range []int{0, 1, 77, greatest} {
		refused(t, a, v, v, api.ErrLoop, "Near", "Pick", "PickBut", "Edges")
	}
	for _, e := range [][2]int{{77, 78}, {78, 77}, {1, 77}, {77, 1}, {0, greatest}, {greatest, 0}} {
		if err := a.Clear(e[0], e[1]); err != api.ErrAbsent {
			t.Error(e, err)
		}
		if tree, there, err := a.Get(e[0], e[1]); tree || there || err != api.OK {
			t.Error(e, tree, there, err)
		}
	}
	check()
	checkAsked(t, a, p, count(10)...)
}

// TestBothWays: what is set of two vertices is got of both, whichever comes first, with the mark that it was given last; what is gone is gone of both.
func TestBothWays(t *testing.T) {
	for _, e := range [][2]int{{1, 2}, {2, 1}} {
		for _, f := range [][2]int{{1, 2}, {2, 1}} {
			for i := range 4 {
				u := newTree(40)
				a, p := New(u), &plain{}
				sets(t, a, p, [2]int{2, 5}, [2]int{1, 0})
				a.Set(e[0], e[1], i%2 > 0)
				p.set(e[0], e[1], i%2 > 0)
				checkAsked(t, a, p, 0, 1, 2, 3, 5)
				checkKept(t, u, p)
				// Once more, with that mark or another one.
				if err := a.Set(f[0], f[1], i/2 > 0); err != api.OK {
					t.Fatal(err)
				}
				p.set(f[0], f[1], i/2 > 0)
				checkAsked(t, a, p, 0, 1, 2, 3, 5)
				checkKept(t, u, p)
				if e, g := a.Clear(f[0], f[1]), a.Clear(e[0], e[1]); e != api.OK || g != api.ErrAbsent {
					t.Fatal(e, g)
				}
				p.clear(1, 2)
				checkAsked(t, a, p, 0, 1, 2, 3, 5)
				checkKept(t, u, p)
			}
		}
	}
}

// TestOrder: vertices of any size come in their order, and those beside one are its own alone.
func TestOrder(t *testing.T) {
	u := newTree(2000)
	a, p := New(u), &plain{}
	some := []int{0, 1, 2, 254, 255, 256, 257, 511, 512, 65279, 65280, 65535, 65536, 65537, 131071, 131072, greatest - 65536, greatest - 255, greatest - 1, greatest}
	for i, v := range some {
		for j := range i {
			sets(t, a, p, [2]int{some[j], v})
			a.Set(v, some[j], (i+j)%3 > 0)
			p.set(v, some[j], (i+j)%3 > 0)
		}
	}
	checkKept(t, u, p)
	checkAsked(t, a, p, append(some, 3, 253, 65534, greatest-2)...)
	for i, v := range some {
		if i%2 > 0 {
			a.Clear(some[i-1], v)
			p.clear(some[i-1], v)
		}
	}
	checkAsked(t, a, p, some...)
}

// TestPick: whatever is left out, in any order, once or more, an edge of the vertex or not, a vertex or not.
func TestPick(t *testing.T) {
	a := New(newTree(400))
	for v, tree := range []bool{true, false, true, false, false, true} {
		a.Set(50, v, tree)
	}
	a.Set(50, 99, false)
	a.Set(49, 0, false)
	a.Set(51, 2, false)
	for _, c := range []struct {
		without []int
		want    int
		found   bool
	}{
		{nil, 1, true},
		{[]int{}, 1, true},
		{[]int{0, 2, 5, 50, 77, -1, math.MaxInt, math.MinInt, 1 << 20}, 1, true},
		{[]int{1}, 3, true},
		{[]int{3}, 1, true},
		{[]int{3, 1, 1, 3}, 4, true},
		{[]int{1, 3, 4}, 99, true},
		{[]int{99, 4, -1, 3, 1}, 0, false},
		{[]int{1 + 1<<32, 1 - 1<<32}, 1, true},
	} {
		was := slices.Clone(c.without)
		if v, ok, err := a.Pick(50, c.without); v != c.want || ok != c.found || err != api.OK {
			t.Error(c, v, ok, err)
		}
		if !slices.Equal(was, c.without) {
			t.Error("what was handed in was changed")
		}
	}
	// One that has none, and one that has edges of the forest alone.
	a.Set(70, 71, true)
	for _, u := range []int{60, 70, 71, 5} {
		if v, ok, err := a.Pick(u, nil); v != 0 || ok || err != api.OK {
			t.Error(u, v, ok, err)
		}
	}
	// The vertex 0 may be picked too.
	if v, ok, err := a.Pick(49, nil); v != 0 || !ok || err != api.OK {
		t.Error(v, ok, err)
	}
}

// TestAllGone: who takes away all that was set leaves nothing.
func TestAllGone(t *testing.T) {
	u := newTree(2000)
	a, p := New(u), &plain{}
	sets(t, a, p, web(60)...)
	checkKept(t, u, p)
	checkAsked(t, a, p, count(61)...)
	for _, e := range p.pairs() {
		if err := a.Clear(e.V, e.U); err != api.OK {
			t.Fatal(e, err)
		}
	}
	checkAsked(t, a, &plain{}, count(61)...)
	if u.Root() != 0 || u.Err() != api.OK {
		t.Error(u.Root(), u.Err())
	}
}

// TestOtherKeys: what begins with another byte does not count, and is not touched.
func TestOtherKeys(t *testing.T) {
	u := newTree(400)
	var others []api.Entry
	for _, first := range []string{"", "\x00", "@", "B", "N", "a", "\xff"} {
		for _, more := range []string{"", keyOf(1, 2)[1:], keyOf(2, 1)[1:], "\xff\xff\xff\xff\xff\xff"} {
			if key := first + more; key != "" {
				others = append(others, api.Entry{Key: key, Value: "t"})
			}
		}
	}
	slices.SortFunc(others, func(a, b api.Entry) int {
		if a.Key < b.Key {
			return -1
		}
		return 1
	})
	for _, e := range others {
		if err := u.Put(e.Key, e.Value); err != api.OK {
			t.Fatal(err)
		}
	}
	a, p := New(u), &plain{}
	checkAsked(t, a, p, 0, 1, 2, 3, greatest)
	sets(t, a, p, web(20)...)
	sets(t, a, p, [2]int{greatest, 1})
	checkAsked(t, a, p, append(count(21), greatest)...)
	for _, e := range p.pairs() {
		a.Clear(e.U, e.V)
	}
	if l, err := u.Scan("", ""); err != api.OK || !slices.Equal(l, others) {
		t.Errorf("%q, %v", l, err)
	}
}

// TestByHand: edges that somebody else has put into the tree of keys are read, and gone on from.
func TestByHand(t *testing.T) {
	u := newTree(40)
	u.Put(keyOf(3, 9), "t")
	u.Put(keyOf(9, 3), "t")
	u.Put(keyOf(9, 4), "n")
	u.Put(keyOf(4, 9), "n")
	a, p := New(u), &plain{[]markedEdge{{3, 9, true}, {4, 9, false}}}
	checkAsked(t, a, p, 3, 4, 5, 9)
	sets(t, a, p, [2]int{9, 3}, [2]int{5, 4})
	checkKept(t, u, p)
	checkAsked(t, a, p, 3, 4, 5, 9)
}

// TestNewOfNil: nil counts as a tree of a change of no file: no page is left for any edge.
func TestNewOfNil(t *testing.T) {
	var none *Adj
	for name, a := range map[string]*Adj{"nil": New(nil), "zero": {}, "none": none, "nil tree": New((*cowtree.Tree)(nil))} {
		checkAsked(t, a, &plain{}, 0, 1, greatest)
		if e, f, g := a.Clear(1, 2), a.Clear(1, 1), a.Clear(-1, 2); e != api.ErrAbsent || f != api.ErrLoop || g != api.ErrVertex {
			t.Error(name, e, f, g)
		}
		if err := a.Set(1, 2, true); err != api.ErrFull {
			t.Error(name, err)
		}
		if a == nil {
			continue
		}
		// By that its tree is done with.
		refused(t, a, 1, 2, api.ErrFull)
		refused(t, a, -1, 1, api.ErrVertex, "Edges")
	}
}

// TestTwoOfOneTree: nothing is kept but in the tree of keys.
func TestTwoOfOneTree(t *testing.T) {
	u := newTree(400)
	a, b, p := New(u), New(u), &plain{}
	sets(t, a, p, web(8)...)
	checkAsked(t, b, p, count(9)...)
	b.Clear(2, 1)
	p.clear(1, 2)
	checkAsked(t, a, p, count(9)...)
	// Edges of another tree know nothing of them.
	checkAsked(t, New(newTree(40)), &plain{}, count(9)...)
}

// TestListsAreNew: what was answered shares nothing with what is kept.
func TestListsAreNew(t *testing.T) {
	a, p := New(newTree(400)), &plain{}
	sets(t, a, p, web(8)...)
	near, _ := a.Near(1)
	all, _ := a.Edges()
	near[0], all[0] = Near{9, true}, api.Pair{U: 9, V: 9}
	checkAsked(t, a, p, count(9)...)
}

// TestOldRoots: what a root stood for that was flushed is still there, whatever was done from it on.
func TestOldRoots(t *testing.T) {
	f := newFile(2000)
	x := alloc.New(f, nil, 2)
	u := cowtree.New(x, 0)
	old := &plain{}
	sets(t, New(u), old, web(30)...)
	x.Flush()
	y := alloc.New(f, nil, x.Pages())
	v := cowtree.New(y, u.Root())
	is := &plain{slices.Clone(old.edges)}
	New(v).Clear(0, 1)
	is.clear(0, 1)
	sets(t, New(v), is, [2]int{40, 41}, [2]int{2, 5})
	y.Flush()
	z := alloc.New(f, nil, y.Pages())
	checkAsked(t, New(cowtree.New(z, u.Root())), old, count(42)...)
	checkAsked(t, New(cowtree.New(z, v.Root())), is, count(42)...)
}

// TestFewReads: who asks for one edge, or for those of one vertex, does not go through all of them.
func TestFewReads(t *testing.T) {
	f := newFile(4000)
	x := alloc.New(f, nil, 2)
	u := cowtree.New(x, 0)
	p := &plain{}
	sets(t, New(u), p, web(600)...)
	x.Flush()
	pages, _ := u.Walk()
	deep := 0
	for _, page := range pages {
		deep = max(deep, page.Depth+1)
	}
	a := New(cowtree.New(alloc.New(f, nil, x.Pages()), u.Root()))
	for v := 300; v < 400; v++ {
		for name, ask := range asks(a, v, v/2) {
			if name == "Edges" {
				continue
			}
			was := f.Disk.Reads()
			ask()
			// A page that is no leaf is read once more, as an inner one. The edges of one vertex stand on a few leaves.
			if n := f.Disk.Reads() - was; n > 2*deep+6 {
				t.Fatal(name, v, n, deep)
			}
		}
	}
}
