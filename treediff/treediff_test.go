package treediff

import (
	"fmt"
	"math"
	"math/rand"
	"slices"
	"strings"
	"testing"

	"rootstock/alloc"
	"rootstock/api"
	"rootstock/cowtree"
	"rootstock/node"
	"rootstock/pagefile"
)

// hundreds is a tree of so many keys, of one value, on the disk.
func hundreds(t *testing.T, f *pagefile.File, keys int) (int, int) {
	t.Helper()
	x := alloc.New(f, nil, 2)
	u := cowtree.New(x, 0)
	for i := range keys {
		if u.Put(key(i), "0123456789") != api.OK {
			t.Fatal("Put", i)
		}
	}
	if x.Flush() != api.OK {
		t.Fatal("Flush")
	}
	return u.Root(), x.Pages()
}

func key(i int) string { return fmt.Sprint("k", 10000+i) }

// changed is another root of a tree, on the disk too, and the change in which both are in use.
func changed(t *testing.T, f *pagefile.File, root, pages int, change func(u *cowtree.Tree)) (int, *alloc.Txn) {
	t.Helper()
	x := alloc.New(f, nil, pages)
	u := cowtree.New(x, root)
	change(u)
	if u.Err() != api.OK || x.Flush() != api.OK {
		t.Fatal(u.Err())
	}
	return u.Root(), alloc.New(f, nil, x.Pages())
}

func TestDiffOfTrees(t *testing.T) {
	for name, change := range map[string]func(u *cowtree.Tree){
		"nothing":        func(u *cowtree.Tree) {},
		"one put":        func(u *cowtree.Tree) { u.Put(key(77), "new") },
		"one more":       func(u *cowtree.Tree) { u.Put("k10077x", "new") },
		"first":          func(u *cowtree.Tree) { u.Put("a", "new") },
		"last":           func(u *cowtree.Tree) { u.Put("z", "new") },
		"one less":       func(u *cowtree.Tree) { u.Delete(key(300)) },
		"first goes":     func(u *cowtree.Tree) { u.Delete(key(0)) },
		"last goes":      func(u *cowtree.Tree) { u.Delete(key(899)) },
		"the same again": func(u *cowtree.Tree) { u.Put(key(5), "x"); u.Put(key(5), "0123456789") },
		"beginning goes": func(u *cowtree.Tree) {
			for i := range 450 {
				u.Delete(key(i))
			}
		},
		"end goes": func(u *cowtree.Tree) {
			for i := range 450 {
				u.Delete(key(450 + i))
			}
		},
		"middle goes": func(u *cowtree.Tree) {
			for i := range 300 {
				u.Delete(key(300 + i))
			}
		},
		"all goes": func(u *cowtree.Tree) {
			for i := range 900 {
				u.Delete(key(i))
			}
		},
		"grown at its beginning": func(u *cowtree.Tree) {
			for i := range 2000 {
				u.Put(long(fmt.Sprint("a", i)), "0123456789")
			}
		},
		"grown at its end": func(u *cowtree.Tree) {
			for i := range 2000 {
				u.Put(long(fmt.Sprint("x", i)), "0123456789")
			}
		},
		"each other value": func(u *cowtree.Tree) {
			for i := range 900 {
				u.Put(key(i), "other")
			}
		},
		"here and there": func(u *cowtree.Tree) {
			u.Put(key(77), "new")
			u.Put(key(2000), "more")
			u.Delete(key(500))
		},
	} {
		t.Run(name, func(t *testing.T) {
			f := newFile(6000)
			root, pages := hundreds(t, f, 900)
			next, x := changed(t, f, root, pages, change)
			bounds := []string{"a", key(77), key(78), key(450), "k10077x", long("x1000"), "zz"}
			checkTrees(t, f, x, root, next, bounds...)
			checkTrees(t, f, x, next, root)
			checkTrees(t, f, x, next, next)
			checkTrees(t, f, x, 0, next, bounds...)
			checkTrees(t, f, x, next, 0)
		})
	}
}

func TestDeltasOfAChange(t *testing.T) {
	f := newFile(3000)
	root, pages := hundreds(t, f, 900)
	x := alloc.New(f, nil, pages)
	u := cowtree.New(x, root)
	u.Put(key(77), "new")
	u.Put(key(2000), "more")
	u.Delete(key(500))
	// Fresh pages are read as others are.
	d, err := Diff(x, root, u.Root())
	if err != api.OK || !slices.Equal(d, []Delta{
		{Key: key(77), Old: "0123456789", New: "new", Was: true, Is: true},
		{Key: key(500), Old: "0123456789", Was: true},
		{Key: key(2000), New: "more", Is: true},
	}) {
		t.Error(d, err)
	}
}

func TestNoKeys(t *testing.T) {
	x := alloc.New(newFile(9), nil, 5)
	for name, u := range map[string]*alloc.Txn{"nil": nil, "zero": {}, "none": alloc.New(nil, nil, 0), "some": x} {
		if d, err := Diff(u, 0, 0); len(d) != 0 || err != api.OK {
			t.Error(name, d, err)
		}
		if d, err := Between(u, 0, 0, "a", "b"); len(d) != 0 || err != api.OK {
			t.Error(name, d, err)
		}
		for _, root := range []int{2, 3, 1, -1, 9, math.MaxInt, math.MinInt} {
			for _, d := range [][2]int{{0, root}, {root, 0}} {
				if d, err := Diff(u, d[0], d[1]); d != nil || err != api.ErrCorrupt {
					t.Error(name, root, d, err)
				}
				if d, err := Between(u, d[0], d[1], "a", ""); d != nil || err != api.ErrCorrupt {
					t.Error(name, root, d, err)
				}
			}
			// A root with itself is not read, so nothing is wrong with it.
			if d, err := Diff(u, root, root); len(d) != 0 || err != api.OK {
				t.Error(name, root, d, err)
			}
		}
	}
}

// letters are two trees that have all leaves but one in common, with the roots 2 and 3: y and z are in the first one, x and z in the second one.
func letters(t *testing.T, f *pagefile.File) *alloc.Txn {
	return lay(t, f,
		inner([]int{4, 5, 6}, "d", "m"), inner([]int{4, 5, 7}, "d", "m"),
		leafNode("a", "b"), leafNode("d", "f"), leafNode("y", "z"), leafNode("x", "z"))
}

func TestSharedPagesAreNotRead(t *testing.T) {
	f := newFile(20)
	x := letters(t, f)
	before := f.Reads()
	d, err := Diff(x, 2, 3)
	if n := f.Reads() - before; err != api.OK || len(d) != 2 || n != 6 {
		t.Error(d, err, n)
	}
	// So nobody sees that they are spoilt.
	harm(f, 4)
	harm(f, 5)
	if d, err := Diff(x, 2, 3); err != api.OK || !slices.Equal(d, []Delta{{Key: "x", New: "vx", Is: true}, {Key: "y", Old: "vy", Was: true}}) {
		t.Error(d, err)
	}
	if d, err := Between(x, 2, 3, "y", "z"); err != api.OK || len(d) != 1 {
		t.Error(d, err)
	}
	if d, err := Diff(x, 2, 0); d != nil || err != api.ErrCorrupt {
		t.Error(d, err)
	}
}

// harm spoils a page.
func harm(f *pagefile.File, id int) {
	f.Disk.Write(id, strings.Repeat("x", api.PageSize))
	f.Sync()
}

func TestPagesThatAreNotAskedAreNotRead(t *testing.T) {
	f := newFile(20)
	x := letters(t, f)
	for _, id := range []int{4, 6, 7} {
		harm(f, id)
	}
	if d, err := Between(x, 2, 0, "d", "m"); err != api.OK || len(d) != 2 || d[0].Key != "d" {
		t.Error(d, err)
	}
	for _, c := range [][2]string{{"c", "m"}, {"d", "n"}, {"d", ""}, {"", "m"}} {
		if d, err := Between(x, 2, 0, c[0], c[1]); err != api.ErrCorrupt || d != nil {
			t.Error(c, d, err)
		}
	}
	before := f.Reads()
	for _, c := range [][2]string{{"m", "d"}, {"d", "d"}, {"\xff", "\x00"}} {
		if d, err := Between(x, 2, 3, c[0], c[1]); err != api.OK || len(d) != 0 || f.Reads() != before {
			t.Error(c, d, err)
		}
	}
}

// TestARootBelowAnother: a tree that is a kid of another one is skipped whole, whichever is asked first.
func TestARootBelowAnother(t *testing.T) {
	f := newFile(20)
	x := lay(t, f, inner([]int{3, 4}, "m"), inner([]int{5}), inner([]int{6}), leafNode("a"), leafNode("n"))
	for _, c := range []struct{ kid, left int }{{3, 5}, {4, 6}} {
		l, _ := look(t, x, 2)
		sub, _ := look(t, x, c.kid)
		s, _ := f.Disk.Read(c.left)
		harm(f, c.left)
		if d, err := Diff(x, 2, c.kid); err != api.OK || !slices.Equal(d, plainLists(l, sub)) {
			t.Error(c.kid, d, err)
		}
		if d, err := Diff(x, c.kid, 2); err != api.OK || !slices.Equal(d, plainLists(sub, l)) {
			t.Error(c.kid, d, err)
		}
		f.Disk.Write(c.left, s)
	}
	checkTrees(t, f, x, 2, 3, "a", "m", "n")
	checkTrees(t, f, x, 2, 4, "a", "m", "n")
	checkTrees(t, f, x, 3, 4, "a", "m", "n")
	checkTrees(t, f, x, 5, 2, "a", "m", "n")
}

// TestAPageThatTheOtherComesTo: what is ahead of a page that is in both trees has gone, and with it the key between them; the page is not read for that.
func TestAPageThatTheOtherComesTo(t *testing.T) {
	f := newFile(20)
	x := lay(t, f, inner([]int{4, 5, 6}, "d", "m"), inner([]int{5, 6}, "m"), leafNode("a", "b"), leafNode("d", "f"), leafNode("y", "z"))
	for _, id := range []int{5, 6} {
		harm(f, id)
	}
	want := []Delta{{Key: "a", Old: "va", Was: true}, {Key: "b", Old: "vb", Was: true}}
	if d, err := Diff(x, 2, 3); err != api.OK || !slices.Equal(d, want) {
		t.Error(d, err)
	}
	if d, err := Diff(x, 3, 2); err != api.OK || !slices.Equal(d, turned(want)) {
		t.Error(d, err)
	}
}

// TestAPageBehind: what is ahead of a page that is in both trees, by the keys that the parents say, is told without reading it, even where the other tree has not come so far that it is seen there.
func TestAPageBehind(t *testing.T) {
	f := newFile(20)
	x := lay(t, f,
		inner([]int{4, 5}, "m"), inner([]int{6, 7}, "m"),
		inner([]int{8}), inner([]int{10, 11}, "t"), inner([]int{9}), inner([]int{10, 12}, "t"),
		inner([]int{13, 14}, "d"), inner([]int{13}), inner([]int{15}), inner([]int{16}), inner([]int{17}),
		leafNode("a"), leafNode("d", "f"), leafNode("n"), leafNode("t"), leafNode("u"))
	want := []Delta{
		{Key: "d", Old: "vd", Was: true}, {Key: "f", Old: "vf", Was: true}, {Key: "t", Old: "vt", Was: true}, {Key: "u", New: "vu", Is: true},
	}
	if d := checkTrees(t, f, x, 2, 3, "d", "f", "m", "t"); !slices.Equal(d, want) {
		t.Error(d)
	}
	for _, id := range []int{10, 13, 15} {
		harm(f, id)
	}
	if d, err := Diff(x, 2, 3); err != api.OK || !slices.Equal(d, want) {
		t.Error(d, err)
	}
	if d, err := Diff(x, 3, 2); err != api.OK || !slices.Equal(d, turned(want)) {
		t.Error(d, err)
	}
}

func TestEveryPageSpoilt(t *testing.T) {
	f := newFile(3000)
	root, pages := hundreds(t, f, 300)
	next, x := changed(t, f, root, pages, func(u *cowtree.Tree) {
		u.Put(key(33), "new")
		u.Delete(key(150))
		for i := range 30 {
			u.Put(fmt.Sprint(key(200), i), "0123456789")
		}
	})
	spoilEach(t, f, x, root, next, true)
}

// spoilEach spoils each page of two trees in turn: one that is in one tree alone is told, and of others nothing is seen, or it is told too, but not if they are never to be read.
func spoilEach(t *testing.T, f *pagefile.File, x *alloc.Txn, a, b int, never bool) {
	t.Helper()
	_, pa := look(t, x, a)
	_, pb := look(t, x, b)
	want, _ := Diff(x, a, b)
	mine := alone(pa, pb)
	all := slices.Clone(mine)
	for id := range pa {
		all = append(all, id)
	}
	slices.Sort(all)
	for _, id := range slices.Compact(all) {
		s, _ := f.Disk.Read(id)
		harm(f, id)
		d, err := Diff(x, a, b)
		back, bad := Diff(x, b, a)
		switch {
		case bad != err || !slices.Equal(back, turned(d)):
			t.Fatal(id, "the other way", d, err, back, bad)
		case slices.Contains(mine, id) && (err != api.ErrCorrupt || d != nil):
			t.Fatal(id, d, err)
		case err == api.OK && !slices.Equal(d, want) || err != api.OK && (err != api.ErrCorrupt || d != nil):
			t.Fatal(id, d, err)
		case never && !slices.Contains(mine, id) && err != api.OK:
			t.Fatal(id, "is in both", err)
		}
		f.Disk.Write(id, s)
		f.Sync()
	}
}

func TestErrors(t *testing.T) {
	// A page of another kind, a leaf's body that is no leaf's, an inner node's that is none's, a page that is free, and one behind all others.
	f := newFile(20)
	lay(t, f, inner([]int{4, 5}, "m"), inner([]int{4, 6}, "m"), leafNode("a"), leafNode("n"), leafNode("o"))
	f.Write(7, api.KindChain, "")
	f.Write(8, api.KindLeaf, "\x05")
	f.Write(9, api.KindInner, "\x00\x00\x00\x01")
	f.Sync()
	x := alloc.New(f, []api.Run{{From: 10, To: 10}, {From: 6, To: 6}}, 12)
	for _, bad := range []int{3, 7, 8, 9, 10, 11, 12, 19, 20} {
		for _, good := range []int{0, 2, 4} {
			if d, err := Diff(x, good, bad); d != nil || err != api.ErrCorrupt {
				t.Error(good, bad, d, err)
			}
			if d, err := Diff(x, bad, good); d != nil || err != api.ErrCorrupt {
				t.Error(bad, good, d, err)
			}
		}
	}
	x = alloc.New(f, nil, 12)
	f.Disk.Break(0)
	f.Write(15, api.KindLeaf, "")
	if d, err := Diff(x, 2, 3); d != nil || err != api.ErrDown {
		t.Error(d, err)
	}
	if d, err := Between(x, 0, 3, "a", "b"); d != nil || err != api.ErrDown {
		t.Error(d, err)
	}
	if d, err := Diff(x, 3, 3); len(d) != 0 || err != api.OK {
		t.Error(d, err)
	}
}

func TestDepth(t *testing.T) {
	row := func(n, first int, last node.Node) []node.Node {
		var l []node.Node
		for i := range n - 1 {
			l = append(l, inner([]int{first + i + 1}))
		}
		return append(l, last)
	}
	nodes := append(row(24, 2, leafNode("a")), row(25, 26, leafNode("b"))...)
	f := newFile(100)
	x := lay(t, f, append(nodes, leafNode("c"))...)
	checkTrees(t, f, x, 2, 27, "a", "b", "c")
	checkTrees(t, f, x, 2, 51, "a", "b", "c")
	checkTrees(t, f, x, 10, 2, "a", "b", "c")
	for _, root := range []int{0, 2, 51} {
		if d, err := Diff(x, root, 26); d != nil || err != api.ErrCorrupt {
			t.Error(root, d, err)
		}
		if d, err := Diff(x, 26, root); d != nil || err != api.ErrCorrupt {
			t.Error(root, d, err)
		}
	}
	// What is too deep is in both: nobody needs to go there.
	if d, err := Diff(x, 26, 27); len(d) != 0 || err != api.OK {
		t.Error(d, err)
	}
}

func TestRounds(t *testing.T) {
	x := lay(t, newFile(20), inner([]int{2}), inner([]int{3, 3}, "m"), inner([]int{5}), inner([]int{4}), inner([]int{7, 6}, "m"), leafNode("a"))
	for _, root := range []int{2, 3, 4, 5, 6} {
		for _, other := range []int{0, 2, 3, 4, 5, 6, 7} {
			mirrored(t, x, root, other, "", "")
			if d, err := Diff(x, root, other); other == 0 && err != api.ErrCorrupt {
				t.Error(root, d, err)
			}
		}
	}
}

// TestWaysBeyondCounting: pages come many times, level by level, so that nobody could go all ways.
func TestWaysBeyondCounting(t *testing.T) {
	for _, width := range []int{2, 5, 29} {
		var nodes []node.Node
		for tree := range 2 {
			for i := range 23 {
				n := node.Node{}
				for j := range width {
					n.Kids = append(n.Kids, tree*24+i+3)
					if j > 0 {
						n.Keys = append(n.Keys, fmt.Sprintf("k%02d", j))
					}
				}
				nodes = append(nodes, n)
			}
			nodes = append(nodes, leafNode([]string{"b", "c"}[tree], "k05x", "z"))
		}
		x := lay(t, newFile(200), nodes...)
		want := []Delta{{Key: "b", Old: "vb", Was: true}, {Key: "c", New: "vc", Is: true}}
		if d, err := Diff(x, 2, 26); err != api.OK || !slices.Equal(d, want) {
			t.Error(d, err)
		}
		if d, err := Diff(x, 2, 0); err != api.OK || len(d) != 3 {
			t.Error(d, err)
		}
	}
}

// mirrored holds what is told of any trees against what must hold even of those that are not whole: it is the same the other way round, it rises, and there is one error alone.
func mirrored(t *testing.T, x *alloc.Txn, a, b int, from, to string) {
	t.Helper()
	d, err := Between(x, a, b, from, to)
	back, bad := Between(x, b, a, from, to)
	if err != bad || !slices.Equal(back, turned(d)) {
		t.Fatal(a, b, d, err, back, bad)
	}
	for i, y := range d {
		if i > 0 && d[i-1].Key >= y.Key || y.Was == y.Is && y.Old == y.New {
			t.Fatal(a, b, d)
		}
	}
	if err != api.OK && (err != api.ErrCorrupt || d != nil) {
		t.Fatal(a, b, d, err)
	}
}

// TestAnyTrees: pages that have any others as their kids, so that they come twice, or below themselves, in trees of any depth.
func TestAnyTrees(t *testing.T) {
	r := rand.New(rand.NewSource(9))
	letter := func() string { return string(rune('a' + r.Intn(12))) }
	for range 4000 {
		var nodes []node.Node
		count := 2 + r.Intn(9)
		for range count {
			var keys []string
			for range r.Intn(4) {
				keys = append(keys, letter())
			}
			slices.Sort(keys)
			keys = slices.Compact(keys)
			if r.Intn(3) == 0 {
				nodes = append(nodes, leafNode(keys...))
				continue
			}
			n := inner([]int{2 + r.Intn(count)}, keys...)
			for range keys {
				n.Kids = append(n.Kids, 2+r.Intn(count))
			}
			nodes = append(nodes, n)
		}
		x := lay(t, newFile(20), nodes...)
		for range 6 {
			a, b := 2+r.Intn(count), 2+r.Intn(count)
			mirrored(t, x, a, b, "", "")
			mirrored(t, x, a, b, letter(), letter())
			mirrored(t, x, a, 0, "", letter())
		}
	}
}

// TestNotWhole: trees that are none of ours. What is asked of them ends, and what is told rises.
func TestNotWhole(t *testing.T) {
	f := newFile(60)
	x := lay(t, f,
		leafNode("a", "z"), leafNode("b", "n"), leafNode(), leafNode("m", "o"),
		inner([]int{2, 2}, "m"), inner([]int{3, 2}, "m"), inner([]int{4, 3, 4}, "d", "m"), inner([]int{5, 3}, "c"),
		inner([]int{6, 5}, "p"), inner([]int{3, 6, 2}, "c", "n"), inner([]int{9, 8, 7, 6}, "b", "n", "y"), inner([]int{2, 10, 3}, "a", "b"))
	for a := range 14 {
		for b := range 14 {
			if a == 1 || b == 1 {
				continue
			}
			if d, err := Diff(x, a, b); err != api.OK {
				t.Error(a, b, d, err)
			}
			mirrored(t, x, a, b, "", "")
		}
	}
	// A page that comes in one tree ahead of all that it has in the other one.
	x = lay(t, f, leafNode("a", "z"), leafNode("f", "h"), leafNode("g"), inner([]int{3, 2}, "m"), inner([]int{2, 4}, "e"))
	want := []Delta{{Key: "a", New: "va", Is: true}, {Key: "f", Old: "vf", Was: true}, {Key: "g", New: "vg", Is: true}, {Key: "h", Old: "vh", Was: true}, {Key: "z", Old: "vz", Was: true}}
	if d, err := Diff(x, 5, 6); err != api.OK || !slices.Equal(d, want) {
		t.Error(d, err)
	}
	// A leaf that is not as deep as others: the entries rise, so it is as with whole trees.
	x = lay(t, f, inner([]int{4, 5}, "m"), inner([]int{6, 7}, "m"), leafNode("a"), inner([]int{8, 9}, "q"), inner([]int{4}), inner([]int{8, 10}, "q"), leafNode("n"), leafNode("q"), leafNode("r"))
	checkTrees(t, f, x, 2, 3, "a", "m", "n", "q", "r")
}
