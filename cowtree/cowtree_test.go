package cowtree

import (
	"fmt"
	"math"
	"slices"
	"strings"
	"testing"

	"rootstock/alloc"
	"rootstock/api"
	"rootstock/node"
	"rootstock/pagefile"
)

func TestExamples(t *testing.T) {
	u := New(alloc.New(newFile(9), nil, 2), 0)
	if u.Put("b", "") != api.OK || u.Put("a", "") != api.OK {
		t.Fatal("Put")
	}
	if l, err := u.Scan("", ""); err != api.OK || !slices.Equal(l, []api.Entry{{Key: "a"}, {Key: "b"}}) {
		t.Error(l, err)
	}
	if e, ok, err := u.Next("aa"); e.Key != "b" || !ok || err != api.OK {
		t.Error(e, ok, err)
	}
	if Deep != 24 {
		t.Error(Deep)
	}
}

func TestHundredKeysOneChanged(t *testing.T) {
	f := newFile(400)
	x := alloc.New(f, nil, 2)
	u := New(x, 0)
	m := map[string]string{}
	for i := range 100 {
		m[fmt.Sprint("key", i)] = strings.Repeat("v", 20)
		u.Put(fmt.Sprint("key", i), strings.Repeat("v", 20))
	}
	x.Flush()
	y := alloc.New(f, x.Free(), x.Pages())
	w := New(y, u.Root())
	if w.Put("key50", "other") != api.OK || w.Root() == u.Root() || len(y.Taken()) > 4 {
		t.Error(w.Root(), y.Taken())
	}
	checkAnswers(t, New(y, u.Root()), m)
	m["key50"] = "other"
	checkAnswers(t, w, m)
}

func TestNoKeys(t *testing.T) {
	for name, u := range map[string]*Tree{
		"root 0": New(alloc.New(newFile(9), nil, 5), 0), "nil": New(nil, 0), "zero": {}, "none": nil,
	} {
		if v, ok, err := u.Get("a"); v != "" || ok || err != api.OK {
			t.Error(name, v, ok, err)
		}
		if l, err := u.Scan("", ""); len(l) != 0 || err != api.OK {
			t.Error(name, l, err)
		}
		if e, ok, err := u.Next(""); e != (api.Entry{}) || ok || err != api.OK {
			t.Error(name, e, ok, err)
		}
		if l, err := u.Walk(); len(l) != 0 || err != api.OK {
			t.Error(name, l, err)
		}
		if was, err := u.Delete("a"); was || err != api.OK {
			t.Error(name, was, err)
		}
		if u.Root() != 0 || u.Err() != api.OK {
			t.Error(name, u.Root(), u.Err())
		}
	}
}

func TestNoFile(t *testing.T) {
	var none *Tree
	if err := none.Put("a", ""); err != api.ErrFull {
		t.Error(err)
	}
	for name, u := range map[string]*Tree{"nil": New(nil, 0), "zero": {}} {
		if err := u.Put("a", ""); err != api.ErrFull || u.Err() != api.ErrFull {
			t.Error(name, err, u.Err())
		}
	}
	if _, _, err := New(nil, 2).Get("a"); err != api.ErrCorrupt {
		t.Error(err)
	}
}

func TestKeysAndValuesAtTheirLimits(t *testing.T) {
	key16, key17 := strings.Repeat("k", 16), strings.Repeat("k", 17)
	value40, value41 := strings.Repeat("v", 40), strings.Repeat("v", 41)
	u := New(alloc.New(newFile(9), nil, 2), 0)
	for _, c := range []struct {
		key, value string
		err        api.Errno
	}{
		{"", "", api.ErrKeyLong}, {"", value41, api.ErrKeyLong}, {key17, "", api.ErrKeyLong}, {"a", value41, api.ErrKeyLong},
		{key16, value40, api.OK}, {"\x00", "", api.OK}, {"\xff", value40, api.OK},
	} {
		root := u.Root()
		if err := u.Put(c.key, c.value); err != c.err {
			t.Errorf("Put(%q, %q): %v", c.key, c.value, err)
		}
		if c.err != api.OK && (u.Root() != root || u.Err() != api.OK) {
			t.Error("changed", u.Root(), u.Err())
		}
	}
	checkAnswers(t, u, map[string]string{key16: value40, "\x00": "", "\xff": value40}, "", key17, key16[:15])
	for _, key := range []string{"", key17} {
		if was, err := u.Delete(key); was || err != api.OK || u.Err() != api.OK {
			t.Error(key, was, err)
		}
	}
}

// letters is a tree on three levels, of one letter each, but for x and z: they are keys of the parents alone.
func letters(t *testing.T, f *pagefile.File) *alloc.Txn {
	return lay(t, f,
		inner([]int{3, 4}, "m"),
		inner([]int{5, 6}, "d"), inner([]int{7, 8, 9}, "q", "x"),
		leafNode("a", "b"), leafNode("d", "f"), leafNode("m", "n", "o"), leafNode("r"), leafNode("y"))
}

func TestReadingByHand(t *testing.T) {
	f := newFile(20)
	u := New(letters(t, f), 2)
	m := map[string]string{}
	for _, key := range []string{"a", "b", "d", "f", "m", "n", "o", "r", "y"} {
		m[key] = "v" + key
	}
	var keys []string
	for c := 'a' - 1; c <= 'z'+1; c++ {
		keys = append(keys, string(c), string(c)+"\x00")
	}
	checkAnswers(t, u, m, append(keys, "")...)
	for _, from := range append(keys, "", "\xff") {
		for _, to := range append(keys, "", "\xff") {
			if l, err := u.Scan(from, to); err != api.OK || !slices.Equal(l, sorted(m, from, to)) {
				t.Fatalf("Scan(%q, %q): %v %v", from, to, l, err)
			}
		}
	}
	p, err := u.Walk()
	if err != api.OK || !samePages(p, pagesOf(t, u.txn, 2, 0)) {
		t.Error(p, err)
	}
	var ids, depths []int
	for _, q := range p {
		ids, depths = append(ids, q.ID), append(depths, q.Depth)
	}
	if !slices.Equal(ids, []int{2, 3, 5, 6, 4, 7, 8, 9}) || !slices.Equal(depths, []int{0, 1, 2, 2, 1, 2, 2, 2}) {
		t.Error(ids, depths)
	}
}

// TestFewReads: what is asked of one key, or of few, is no reason to read all pages.
func TestFewReads(t *testing.T) {
	f := newFile(20)
	u := New(letters(t, f), 2)
	for name, c := range map[string]struct {
		ask  func()
		most int
	}{
		"get":  {func() { u.Get("n") }, 5},
		"next": {func() { u.Next("n") }, 5},
		"far":  {func() { u.Next("p") }, 6},
		"scan": {func() { u.Scan("e", "f") }, 5},
		"two":  {func() { u.Scan("e", "mm") }, 8},
		"none": {func() { u.Scan("f", "e") }, 5},
	} {
		before := f.Reads()
		c.ask()
		if n := f.Reads() - before; n > c.most {
			t.Error(name, n)
		}
	}
}

// TestChangesReadTheWayAlone: the kids beside one that is not small, and has not less than it had, are not asked.
func TestChangesReadTheWayAlone(t *testing.T) {
	f := newFile(40)
	x := lay(t, f, inner([]int{3, 4, 5}, "b", "c"), sized('a', 100), sized('b', 100), sized('c', 100))
	for _, value := range []string{strings.Repeat("w", 40), strings.Repeat("v", 39) + "w"} {
		before := f.Reads()
		if err := New(x, 2).Put("b0", value); err != api.OK {
			t.Error(err)
		}
		if n := f.Reads() - before; n != 3 {
			t.Error(n)
		}
	}
}

func TestPagesThatAreNotFreshAreNotWritten(t *testing.T) {
	f := newFile(40)
	x := letters(t, f)
	before := sectors(t, f)
	u := New(x, 2)
	m := map[string]string{}
	for _, e := range entriesOf(t, x, 2) {
		m[e.Key] = e.Value
	}
	old := sorted(m, "", "")
	for _, key := range []string{"a", "c", "n", "p", "r", "y", "b"} {
		if _, there := m[key]; there {
			u.Delete(key)
			delete(m, key)
		} else {
			u.Put(key, "new")
			m[key] = "new"
		}
		checkAnswers(t, u, m)
		look(t, x, u.Root()).whole()
		look(t, x, u.Root()).fresh()
		if l, err := New(x, 2).Scan("", ""); err != api.OK || !slices.Equal(l, old) {
			t.Fatal("old root", l, err)
		}
	}
	if x.Flush() != api.OK {
		t.Fatal("Flush")
	}
	after := sectors(t, f)
	for id := range before {
		if !x.Fresh(id) && before[id] != after[id] {
			t.Error("written", id)
		}
	}
	y := alloc.New(f, x.Free(), x.Pages())
	checkAnswers(t, New(y, u.Root()), m)
	if l := entriesOf(t, y, 2); !slices.Equal(l, old) {
		t.Error(l)
	}
}

func TestFreshPagesAreWrittenInTheirPlace(t *testing.T) {
	x := alloc.New(newFile(40), nil, 2)
	u := New(x, 0)
	for i := range 30 {
		u.Put(fmt.Sprint(100+i), "0123456789")
	}
	root, pages := u.Root(), pagesNow(t, u)
	if u.Put("115", "9876543210") != api.OK || u.Root() != root {
		t.Error(u.Root(), root)
	}
	if now := pagesNow(t, u); !slices.Equal(now, pages) {
		t.Error(now, pages)
	}
	before := x.Taken()
	if u.Put("115", "9876543210") != api.OK || !slices.Equal(x.Taken(), before) {
		t.Error("what is there already", x.Taken())
	}
}

// pagesNow are the numbers of a tree's pages.
func pagesNow(t *testing.T, u *Tree) []int {
	t.Helper()
	var ids []int
	l, err := u.Walk()
	if err != api.OK {
		t.Fatal(err)
	}
	for _, p := range l {
		ids = append(ids, p.ID)
	}
	return ids
}

func TestNothingChangedTakesNoPage(t *testing.T) {
	f := newFile(20)
	x := letters(t, f)
	u := New(x, 2)
	if was, err := u.Delete("c"); was || err != api.OK || u.Root() != 2 || len(x.Taken()) != 0 {
		t.Error(was, err, u.Root(), x.Taken())
	}
	if err := u.Put("d", "vd"); err != api.OK || u.Root() != 2 || len(x.Taken()) != 0 {
		t.Error(err, u.Root(), x.Taken())
	}
}

func TestRootGivesWayToItsKid(t *testing.T) {
	f := newFile(40)
	big := func(first byte) node.Node {
		n := node.Node{Leaf: true}
		for i := range 4 {
			n.Entries = append(n.Entries, api.Entry{Key: string([]byte{first, byte('0' + i)}), Value: strings.Repeat("v", 40)})
		}
		return n
	}
	x := lay(t, f, inner([]int{3, 4}, "m"), inner([]int{5}), inner([]int{6}), big('a'), leafNode("n"))
	u := New(x, 2)
	if was, err := u.Delete("n"); !was || err != api.OK || u.Root() != 5 || len(x.Taken()) != 0 {
		t.Error(was, err, u.Root(), x.Taken())
	}
	look(t, x, u.Root()).whole()
	u = New(x, 2)
	for i := range 4 {
		if was, err := u.Delete(fmt.Sprint("a", i)); !was || err != api.OK {
			t.Error(was, err)
		}
		look(t, x, u.Root()).whole()
		look(t, x, u.Root()).kept()
	}
	if l, err := u.Scan("", ""); len(l) != 1 || err != api.OK {
		t.Error(l, err)
	}
	if u.Delete("n"); u.Root() != 0 || len(x.Taken()) != 0 {
		t.Error(u.Root(), x.Taken())
	}
}

// sized is a leaf of so many bytes, from 30 on, of keys that begin with a letter.
func sized(first byte, size int) node.Node {
	n := node.Node{Leaf: true}
	for i := 0; size > 0; i++ {
		take := min(size, 44)
		if size-take > 0 && size-take < 4 {
			take -= 4
		}
		n.Entries = append(n.Entries, api.Entry{Key: string([]byte{first, byte('0' + i)}), Value: strings.Repeat("v", take-4)})
		size -= take
	}
	return n
}

func TestSmallKidsAreJoined(t *testing.T) {
	for _, c := range []struct {
		name  string
		sizes []int
		kid   int // it loses its first entry, of 44 bytes
		left  []int
	}{
		{"not small", []int{100, 124, 100}, 1, []int{100, 80, 100}},
		{"small, behind", []int{100, 123, 100}, 1, []int{100, 179}},
		{"small, behind, just fits", []int{100, 123, 161}, 1, []int{100, 240}},
		{"small, behind, does not fit", []int{100, 123, 162}, 1, []int{100, 79, 162}},
		{"small, not ahead", []int{20, 123, 162}, 1, []int{99, 162}},
		{"the last, ahead", []int{100, 100, 123}, 2, []int{100, 179}},
		{"the last, just fits", []int{100, 161, 123}, 2, []int{100, 240}},
		{"the last, does not fit", []int{100, 162, 123}, 2, []int{100, 162, 79}},
		{"the first", []int{123, 100, 100}, 0, []int{179, 100}},
		{"the one ahead is small", []int{79, 205, 100}, 1, []int{240, 100}},
		{"the one ahead is small, does not fit", []int{79, 206, 100}, 1, []int{79, 162, 100}},
		{"the last is small", []int{100, 205, 79}, 1, []int{100, 240}},
		{"the last is small, does not fit", []int{100, 206, 79}, 1, []int{100, 162, 79}},
		{"it goes, one ahead is small", []int{40, 44, 50}, 1, []int{90}},
		{"it goes, one ahead is last and small", []int{100, 50, 44}, 2, []int{150}},
		{"it goes, two stay", []int{100, 44, 100}, 1, []int{100, 100}},
		{"the first goes", []int{44, 100, 100}, 0, []int{100, 100}},
		{"small again", []int{48, 4, 4, 100}, 0, []int{112}},
	} {
		kids := []node.Node{}
		top := node.Node{}
		for i, size := range c.sizes {
			kids = append(kids, sized(byte('a'+i), size))
			top.Kids = append(top.Kids, 3+i)
			if i > 0 {
				top.Keys = append(top.Keys, string([]byte{byte('a' + i)}))
			}
		}
		x := lay(t, newFile(40), append([]node.Node{top}, kids...)...)
		u := New(x, 2)
		if was, err := u.Delete(string([]byte{byte('a' + c.kid), '0'})); !was || err != api.OK {
			t.Fatal(c.name, was, err)
		}
		look(t, x, u.Root()).whole()
		var left []int
		for _, p := range pagesOf(t, x, u.Root(), 0) {
			if p.Node.Leaf {
				left = append(left, node.Size(p.Node))
			}
		}
		if !slices.Equal(left, c.left) {
			t.Error(c.name, left, c.left)
		}
	}
}

// TestWhereInnerNodesMeet: where inner nodes are joined, or split, kids have others beside them than they had.
func TestWhereInnerNodesMeet(t *testing.T) {
	for _, c := range []struct {
		name   string
		groups [][]int
		left   [][]int
	}{
		{"the last of the first one", [][]int{{180, 70}, {150, 100}}, [][]int{{180, 220, 100}}},
		{"it does not fit", [][]int{{180, 70}, {171, 100}}, [][]int{{180, 70, 171, 100}}},
		{"it is not small", [][]int{{180, 80}, {150, 100}}, [][]int{{180, 80, 150, 100}}},
		{"the only one of the second one", [][]int{{150, 100}, {70}}, [][]int{{150, 170}}},
		{"it does not fit either", [][]int{{150, 180}, {70}}, [][]int{{150, 180, 70}}},
		{"the only one of the first one", [][]int{{160}, {70, 180}}, [][]int{{160, 70, 180}}},
		{"both are alone", [][]int{{160}, {70}}, [][]int{{230}}},
	} {
		nodes := []node.Node{{}}
		leaf := byte('a')
		for i, group := range c.groups {
			n := node.Node{}
			at := len(nodes)
			nodes = append(nodes, n)
			nodes[0].Kids = append(nodes[0].Kids, at+2)
			if i > 0 {
				nodes[0].Keys = append(nodes[0].Keys, string([]byte{leaf}))
			}
			for j, size := range group {
				n.Kids = append(n.Kids, len(nodes)+2)
				if j > 0 {
					n.Keys = append(n.Keys, string([]byte{leaf}))
				}
				nodes = append(nodes, sized(leaf, size))
				leaf++
			}
			nodes[at] = n
		}
		x := lay(t, newFile(60), nodes...)
		u := New(x, 2)
		// The value is as long as it was, so that nothing but the inner nodes is a reason to join.
		if err := u.Put("a0", strings.Repeat("w", 40)); err != api.OK {
			t.Fatal(c.name, err)
		}
		look(t, x, u.Root()).whole()
		var left [][]int
		for _, p := range look(t, x, u.Root()).pages {
			if !p.Node.Leaf {
				left = append(left, nil)
				continue
			}
			if len(left) == 0 {
				left = append(left, nil)
			}
			left[len(left)-1] = append(left[len(left)-1], node.Size(p.Node))
		}
		if !slices.EqualFunc(left, c.left, func(a, b []int) bool { return slices.Equal(a, b) }) {
			t.Error(c.name, left, c.left)
		}
	}
}

// TestFullDisk: keys are taken away from a tree of fresh pages even where there is no page more.
func TestFullDisk(t *testing.T) {
	for sectors := 4; sectors < 60; sectors++ {
		x := alloc.New(newFile(sectors), nil, 2)
		u := New(x, 0)
		var keys []string
		for i := 0; len(x.Taken()) < sectors-2; i++ {
			root := u.Root()
			key := long(fmt.Sprint(i * 7919 % 1000))
			if u.Put(key, strings.Repeat("v", i%41)) != api.OK {
				u = New(x, root)
				break
			}
			keys = append(keys, key)
		}
		for i, key := range keys {
			if was, err := u.Delete(key); !was || err != api.OK {
				t.Fatal(sectors, i, was, err)
			}
			now := look(t, x, u.Root())
			now.whole()
			now.kept()
			now.fresh()
		}
		if u.Root() != 0 || len(x.Taken()) != 0 {
			t.Error(u.Root(), x.Taken())
		}
	}
}

// TestFullDiskWithPagesInUse: what comes of two kids stands on the one of their pages that is fresh.
func TestFullDiskWithPagesInUse(t *testing.T) {
	for _, kid := range []string{"a", "b", "c"} {
		nodes := []node.Node{inner([]int{3, 4, 5}, "b", "c"), sized('a', 100), sized('b', 100), sized('c', 100)}
		x := lay(t, newFile(8), nodes...)
		u := New(x, 2)
		if err := u.Put(kid+"0", ""); err != api.OK || len(x.Taken()) != 2 {
			t.Fatal(kid, err, x.Taken())
		}
		if was, err := u.Delete(kid + "0"); !was || err != api.OK || len(x.Taken()) != 2 {
			t.Error(kid, was, err, x.Taken())
		}
		now := look(t, x, u.Root())
		now.whole()
		now.kept()
		now.fresh()
	}
}

func TestSplit(t *testing.T) {
	x := lay(t, newFile(40), sized('a', 240))
	u := New(x, 2)
	if u.Put("a00", "") != api.OK {
		t.Fatal("Put")
	}
	l := pagesOf(t, x, u.Root(), 0)
	if len(l) != 3 || len(l[0].Node.Kids) != 2 {
		t.Fatal(l)
	}
	a, key, b := node.Split(node.Node{Leaf: true, Entries: entriesOf(t, x, u.Root())})
	if !samePages(l[1:], []Page{{ID: l[1].ID, Depth: 1, Node: a}, {ID: l[2].ID, Depth: 1, Node: b}}) || l[0].Node.Keys[0] != key {
		t.Error(l)
	}
}

func TestErrIsKept(t *testing.T) {
	f := newFile(5)
	x := alloc.New(f, nil, 2)
	u := New(x, 0)
	var err api.Errno
	for i := 0; err == api.OK && i < 100; i++ {
		err = u.Put(fmt.Sprint("key", i), "0123456789")
	}
	checkDone(t, u, api.ErrFull)
	v := New(x, 99)
	if _, err := v.Delete("a"); err != api.ErrCorrupt {
		t.Error(err)
	}
	checkDone(t, v, api.ErrCorrupt)
	x = letters(t, newFile(20))
	w := New(x, 2)
	if err := w.Put("", ""); err != api.ErrKeyLong || w.Err() != api.OK {
		t.Error(err)
	}
	g := newFile(20)
	w = New(letters(t, g), 2)
	g.Break(0)
	g.Write(19, api.KindLeaf, "")
	if _, _, err := w.Get("a"); err != api.ErrDown || w.Err() != api.OK || w.Root() != 2 {
		t.Error(err)
	}
	if err := w.Put("a", ""); err != api.ErrDown {
		t.Error(err)
	}
	g.Crash(nil, 0, 0)
	checkDone(t, w, api.ErrDown)
}

// checkDone tells whether a tree answers an error alone.
func checkDone(t *testing.T, u *Tree, want api.Errno) {
	t.Helper()
	if u.Err() != want || u.Root() != 0 {
		t.Error(u.Err(), u.Root())
	}
	for _, key := range []string{"", "a", "key0", strings.Repeat("k", 17)} {
		if v, ok, err := u.Get(key); v != "" || ok || err != want {
			t.Error(v, ok, err)
		}
		if err := u.Put(key, ""); err != want {
			t.Error(err)
		}
		if was, err := u.Delete(key); was || err != want {
			t.Error(was, err)
		}
		if l, err := u.Scan(key, ""); len(l) != 0 || err != want {
			t.Error(l, err)
		}
		if e, ok, err := u.Next(key); e != (api.Entry{}) || ok || err != want {
			t.Error(e, ok, err)
		}
	}
	if l, err := u.Walk(); len(l) != 0 || err != want {
		t.Error(l, err)
	}
	if u.Err() != want || u.Root() != 0 {
		t.Error(u.Err(), u.Root())
	}
}

// TestErrorsLeaveThePagesAsTheyWere: the change that a Put or a Delete errs in has the same pages, with the same bodies, as ahead of it.
func TestErrorsLeaveThePagesAsTheyWere(t *testing.T) {
	for sectors := 3; sectors < 24; sectors++ {
		x := alloc.New(newFile(sectors), nil, 2)
		u := New(x, 0)
		for i := 0; ; i++ {
			root, taken := u.Root(), x.Taken()
			before := pagesOf(t, x, root, 0)
			if err := u.Put(long(fmt.Sprint(i*7919%1000)), strings.Repeat("v", i%41)); err == api.OK {
				continue
			} else if err != api.ErrFull {
				t.Fatal(err)
			}
			if !slices.Equal(x.Taken(), taken) || !samePages(pagesOf(t, x, root, 0), before) {
				t.Error(sectors, i, x.Taken(), taken)
			}
			break
		}
	}
}

func TestOddRoots(t *testing.T) {
	f := newFile(20)
	x := letters(t, f)
	for _, root := range []int{1, -1, 10, 19, 20, 21, math.MaxInt, math.MinInt, 1 << 32} {
		u := New(x, root)
		if _, _, err := u.Get("a"); err != api.ErrCorrupt || u.Root() != root {
			t.Error(root, err)
		}
		if l, err := u.Scan("", ""); err != api.ErrCorrupt || len(l) != 0 {
			t.Error(root, err)
		}
		if _, _, err := u.Next("a"); err != api.ErrCorrupt {
			t.Error(root, err)
		}
		if l, err := u.Walk(); err != api.ErrCorrupt || len(l) != 0 {
			t.Error(root, err)
		}
		if err := u.Put("a", ""); err != api.ErrCorrupt || len(x.Taken()) != 0 {
			t.Error(root, err)
		}
	}
}

func TestNothingShared(t *testing.T) {
	f := newFile(20)
	u := New(letters(t, f), 2)
	for range 2 {
		l, _ := u.Scan("", "")
		if len(l) != 9 || l[0].Key != "a" {
			t.Fatal(l)
		}
		for i := range l[:cap(l)] {
			l[:cap(l)][i] = api.Entry{Key: "spoilt"}
		}
		p, _ := u.Walk()
		if !samePages(p, pagesOf(t, u.txn, 2, 0)) {
			t.Fatal(p)
		}
		for _, q := range p {
			spoil(q.Node.Entries, api.Entry{Key: "spoilt"})
			spoil(q.Node.Kids, 99)
			spoil(q.Node.Keys, "spoilt")
		}
	}
}

// spoil writes over all that a list's memory holds.
func spoil[T any](l []T, v T) {
	for i := range l[:cap(l)] {
		l[:cap(l)][i] = v
	}
}
