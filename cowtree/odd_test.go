package cowtree

import (
	"fmt"
	"math/rand"
	"slices"
	"strings"
	"testing"

	"rootstock/alloc"
	"rootstock/api"
	"rootstock/node"
	"rootstock/pagefile"
)

// refused tells whether all calls answer an error.
func refused(t *testing.T, x *alloc.Txn, root int, key string, want api.Errno) {
	t.Helper()
	u := New(x, root)
	if v, ok, err := u.Get(key); v != "" || ok || err != want {
		t.Error("Get", v, ok, err)
	}
	if l, err := u.Scan("", ""); len(l) != 0 || err != want {
		t.Error("Scan", l, err)
	}
	if e, ok, err := u.Next(key); e != (api.Entry{}) || ok || err != want {
		t.Error("Next", e, ok, err)
	}
	if l, err := u.Walk(); len(l) != 0 || err != want {
		t.Error("Walk", l, err)
	}
	if u.Err() != api.OK || u.Root() != root {
		t.Error(u.Err(), u.Root())
	}
	taken := x.Taken()
	if was, err := New(x, root).Delete(key); was || err != want {
		t.Error("Delete", was, err)
	}
	if err := u.Put(key, "other"); err != want || u.Err() != want {
		t.Error("Put", err)
	}
	if !slices.Equal(x.Taken(), taken) {
		t.Error(x.Taken())
	}
}

func TestRounds(t *testing.T) {
	for _, nodes := range [][]node.Node{
		{inner([]int{2})},
		{inner([]int{2, 2}, "m")},
		{inner([]int{3}), inner([]int{2})},
		{inner([]int{3, 2}, "m"), inner([]int{4, 3}, "f"), inner([]int{3, 2}, "c")},
	} {
		refused(t, lay(t, newFile(20), nodes...), 2, "a", api.ErrCorrupt)
	}
	// A round that no key comes to is found by who comes to it.
	x := lay(t, newFile(20), inner([]int{3, 2}, "m"), leafNode("a"))
	u := New(x, 2)
	if v, ok, err := u.Get("a"); v != "va" || !ok || err != api.OK {
		t.Error(v, ok, err)
	}
	if l, err := u.Scan("a", "m"); len(l) != 1 || err != api.OK {
		t.Error(l, err)
	}
	if _, err := u.Scan("", ""); err != api.ErrCorrupt {
		t.Error(err)
	}
	if _, err := u.Walk(); err != api.ErrCorrupt {
		t.Error(err)
	}
	// The root goes, and what stays has itself as its one kid.
	x = lay(t, newFile(20), inner([]int{3, 4}, "m"), leafNode("a"), inner([]int{4}))
	if was, err := New(x, 2).Delete("a"); was || err != api.ErrCorrupt || len(x.Taken()) != 0 {
		t.Error(was, err)
	}
}

// TestFreshRounds: a fresh page is written in its place, so that what is its own kid is met as it was just changed.
func TestFreshRounds(t *testing.T) {
	x := alloc.New(newFile(20), nil, 2)
	for id, n := range map[int]node.Node{
		2: inner([]int{5, 5, 4}, "x", "y"), 3: leafNode("a"), 4: leafNode("y"), 5: inner([]int{3, 5}, "m"),
	} {
		for !x.Fresh(id) {
			x.Alloc()
		}
		kind, body, _ := node.Encode(n)
		x.Put(id, kind, body)
	}
	u := New(x, 2)
	if was, err := u.Delete("a"); was || err != api.ErrCorrupt {
		t.Error(was, err)
	}
	if n := nodeOf(t, x, 5); !slices.Equal(n.Kids, []int{3, 5}) {
		t.Error(n)
	}
}

func TestDepth(t *testing.T) {
	row := func(n int) []node.Node {
		var l []node.Node
		for i := range n - 1 {
			l = append(l, inner([]int{i + 3}))
		}
		return append(l, leafNode("a"))
	}
	x := lay(t, newFile(60), row(24)...)
	u := New(x, 2)
	checkAnswers(t, u, map[string]string{"a": "va"}, "", "b")
	if l, err := u.Walk(); len(l) != 24 || l[23].Depth != 23 || err != api.OK {
		t.Error(l, err)
	}
	if err := u.Put("b", "vb"); err != api.OK {
		t.Error(err)
	}
	checkAnswers(t, u, map[string]string{"a": "va", "b": "vb"})
	look(t, x, u.Root()).kept()
	refused(t, lay(t, newFile(60), row(25)...), 2, "a", api.ErrCorrupt)
}

// TestWaysBeyondCounting: pages come many times, level by level, so that nobody could go all ways.
func TestWaysBeyondCounting(t *testing.T) {
	for _, bottom := range []node.Node{leafNode(), leafNode("b", "k05x", "z")} {
		for _, width := range []int{2, 5, 29} {
			var nodes []node.Node
			for i := range 23 {
				n := node.Node{}
				for j := range width {
					n.Kids = append(n.Kids, i+3)
					if j > 0 {
						n.Keys = append(n.Keys, fmt.Sprintf("k%02d", j))
					}
				}
				nodes = append(nodes, n)
			}
			x := lay(t, newFile(200), append(nodes, bottom)...)
			u := New(x, 2)
			if l, err := u.Scan("", ""); err != api.OK || !slices.Equal(l, bottom.Entries) {
				t.Error(l, err)
			}
			if e, ok, err := u.Next("k06"); err != api.OK || ok != (len(bottom.Entries) > 0) || ok && e.Key != "z" {
				t.Error(e, ok, err)
			}
			if l, err := u.Walk(); len(l) != 24 || err != api.OK {
				t.Error(l, err)
			}
			for i := range 40 {
				u.Put(fmt.Sprint("k0", i), strings.Repeat("v", i))
				u.Delete(fmt.Sprint("k0", i*i%50))
				u.Scan("", "")
			}
		}
	}
	// A page that comes first where it is not too deep, and then where it is.
	nodes := []node.Node{inner([]int{4, 3}, "m"), inner([]int{4})}
	for i := range 22 {
		nodes = append(nodes, inner([]int{i + 5}))
	}
	x := lay(t, newFile(60), append(nodes, leafNode("a"))...)
	u := New(x, 2)
	if v, ok, err := u.Get("a"); v != "va" || !ok || err != api.OK {
		t.Error(v, ok, err)
	}
	if l, err := u.Walk(); len(l) != 0 || err != api.ErrCorrupt {
		t.Error(l, err)
	}
}

// TestNotWhole: trees that are none of ours. What is asked of them ends, and what a key's leaf has is told.
func TestNotWhole(t *testing.T) {
	full := sized('a', 240)
	for name, nodes := range map[string][]node.Node{
		"leaf beside inner":   {inner([]int{3, 4}, "m"), leafNode("a"), inner([]int{5}), leafNode("n")},
		"inner beside leaf":   {inner([]int{3, 4}, "m"), inner([]int{5}), leafNode("n"), leafNode("a")},
		"empty leaves":        {inner([]int{3, 4, 5}, "d", "m"), leafNode(), leafNode("e"), leafNode()},
		"keys that none says": {inner([]int{3, 4}, "a2"), full, leafNode("z")},
		"keys the other way":  {inner([]int{3, 4}, "m"), leafNode("n", "o"), leafNode("a", "b")},
		"one leaf twice":      {inner([]int{3, 3}, "m"), leafNode("a", "z")},
		"one kid and one kid": {inner([]int{3}), inner([]int{4}), leafNode("a")},
	} {
		f := newFile(60)
		x := lay(t, f, nodes...)
		before := sectors(t, f)
		for _, key := range []string{"a", "a00", "e", "f0", "n", "n0", "z"} {
			u := New(x, 2)
			u.Scan("", "")
			u.Walk()
			if err := u.Put(key, strings.Repeat("v", 40)); err != api.OK && err != api.ErrCorrupt {
				t.Error(name, key, err)
			} else if v, ok, err := u.Get(key); err == api.OK && (!ok || len(v) != 40) {
				t.Error(name, key, v, ok)
			}
			if was, err := u.Delete(key); err != api.OK && err != api.ErrCorrupt || err == api.OK && !was {
				t.Error(name, key, was, err)
			} else if v, ok, err := u.Get(key); err == api.OK && ok {
				t.Error(name, key, v)
			}
		}
		for id := range nodes {
			if s, _ := f.Disk.Read(id + 2); s != before[id+2] {
				t.Error(name, "written", id+2)
			}
		}
	}
	x := lay(t, newFile(60), inner([]int{3, 3}, "m"), leafNode("a", "z"))
	if l, err := New(x, 2).Scan("", ""); err != api.OK || len(l) != 2 {
		t.Error(l, err)
	}
	x = lay(t, newFile(60), inner([]int{3, 4}, "a2"), full, sized('z', 200))
	if err := New(x, 2).Put("a00", ""); err != api.ErrCorrupt || len(x.Taken()) != 0 {
		t.Error(err, x.Taken())
	}
}

func TestSpoiltPages(t *testing.T) {
	for id := 2; id <= 9; id++ {
		for name, spoilt := range map[string]func(f *pagefile.File){
			"a byte":       func(f *pagefile.File) { harm(f, id) },
			"another kind": func(f *pagefile.File) { f.Write(id, api.KindChain, "") },
			"no body":      func(f *pagefile.File) { f.Write(id, api.KindInner, "") },
			"a bad leaf":   func(f *pagefile.File) { f.Write(id, api.KindLeaf, "\x01b\x00\x01a\x00") },
		} {
			f := newFile(20)
			whole := entriesOf(t, letters(t, f), 2)
			spoilt(f)
			x := alloc.New(f, nil, 10)
			u := New(x, 2)
			if l, err := u.Scan("", ""); len(l) != 0 || err != api.ErrCorrupt {
				t.Error(name, id, l, err)
			}
			if l, err := u.Walk(); len(l) != 0 || err != api.ErrCorrupt {
				t.Error(name, id, l, err)
			}
			met := 0
			for _, e := range whole {
				v, ok, err := u.Get(e.Key)
				switch {
				case err == api.ErrCorrupt && v == "" && !ok:
					met++
				case err != api.OK || !ok || v != e.Value:
					t.Error(name, id, v, ok, err)
				}
				n, ok, err2 := u.Next(e.Key)
				if err2 != err || err == api.OK && n != e {
					t.Error(name, id, n, ok, err2)
				}
				if was, err2 := New(x, 2).Delete(e.Key); err == api.ErrCorrupt && (was || err2 != err) {
					t.Error(name, id, was, err2)
				}
			}
			if met == 0 {
				t.Error(name, id)
			}
		}
	}
}

// TestSpoiltPagesBeside: a page that a change comes to just because of what is beside it.
func TestSpoiltPagesBeside(t *testing.T) {
	row := func(sizes ...int) []node.Node {
		l := []node.Node{{}}
		for i, size := range sizes {
			l[0].Kids = append(l[0].Kids, i+3)
			if i > 0 {
				l[0].Keys = append(l[0].Keys, long(string([]byte{byte('a' + i)})))
			}
			n := sized(byte('a'+i), size)
			for j := range n.Entries {
				n.Entries[j].Key = long(n.Entries[j].Key)[:15] + "~"
				n.Entries[j].Value = n.Entries[j].Value[:max(0, len(n.Entries[j].Value)-14)]
			}
			l = append(l, n)
		}
		return l
	}
	one := []node.Node{inner([]int{3, 4}, "m"), leafNode("a"), inner([]int{5}), leafNode("n")}
	pairs := []node.Node{
		inner([]int{3, 4}, "m"), inner([]int{5, 6}, "c"), inner([]int{7, 8}, "p"),
		leafNode("a"), sized('c', 200), sized('m', 200), sized('p', 200),
	}
	for _, c := range []struct {
		name   string
		nodes  []node.Node
		change func(*Tree) api.Errno
		page   int
	}{
		{"behind a small one", row(44, 100, 100), func(u *Tree) api.Errno { return u.Put(long("a"), "") }, 4},
		{"ahead of a small one", row(100, 100, 44), func(u *Tree) api.Errno { return u.Put(long("c0"), "") }, 4},
		{"ahead of one that has less", row(100, 220, 100), func(u *Tree) api.Errno { return u.Put(long("b0")[:15]+"~", "") }, 3},
		{"at the end of the first half", row(240, 100, 100, 100, 100, 100, 100, 100, 100, 100, 100, 100),
			func(u *Tree) api.Errno { return u.Put(long("a"), strings.Repeat("v", 40)) }, 7},
		{"the root", one, func(u *Tree) api.Errno { return remove(u, "a") }, 4},
		{"where both meet", pairs, func(u *Tree) api.Errno { return remove(u, "a") }, 7},
	} {
		f := newFile(60)
		x := lay(t, f, c.nodes...)
		if err := c.change(New(x, 2)); err != api.OK {
			t.Error(c.name, "whole", err)
		}
		harm(f, c.page)
		x = alloc.New(f, nil, len(c.nodes)+2)
		u := New(x, 2)
		if err := c.change(u); err != api.ErrCorrupt || u.Err() != err || len(x.Taken()) != 0 {
			t.Error(c.name, err, x.Taken())
		}
	}
}

// remove takes a key away that is there.
func remove(u *Tree, key string) api.Errno {
	was, err := u.Delete(key)
	if was == (err != api.OK) {
		return api.ErrArg
	}
	return err
}

// harm changes one byte of a page.
func harm(f *pagefile.File, id int) {
	s, _ := f.Disk.Read(id)
	b := []byte(s)
	b[20] ^= 1
	f.Disk.Write(id, string(b))
}

// tower lays a tree by hand whose nodes on the way to the least key have no room, so that all of them are split by a key more.
type tower struct {
	t      *testing.T
	f      *pagefile.File
	next   int
	bottom int
	room   int // nodes above this depth have room
}

func (w *tower) lay(n node.Node) int {
	kind, body, err := node.Encode(n)
	if err != api.OK {
		w.t.Fatal(n, err)
	}
	w.next++
	if err := w.f.Write(w.next-1, kind, body); err != api.OK {
		w.t.Fatal(w.next, err)
	}
	return w.next - 1
}

// thin is a tree of one key.
func (w *tower) thin(depth int, key string) int {
	if depth == w.bottom {
		return w.lay(node.Node{Leaf: true, Entries: []api.Entry{{Key: key, Value: strings.Repeat("v", 40)}}})
	}
	return w.lay(inner([]int{w.thin(depth+1, key)}))
}

// wide is a tree that is not small.
func (w *tower) wide(depth int, prefix string) int {
	var keys []string
	for i := range 5 {
		keys = append(keys, prefix+strings.Repeat("`", 11)+fmt.Sprint(i))
	}
	if depth == w.bottom {
		return w.lay(leafNode(keys...))
	}
	n := node.Node{Keys: keys[1:]}
	for _, key := range keys {
		n.Kids = append(n.Kids, w.thin(depth+1, key))
	}
	return w.lay(n)
}

// full is the tree on the way to the least key.
func (w *tower) full(depth int) int {
	if depth == w.bottom {
		n := node.Node{Leaf: true}
		for i := range 4 {
			n.Entries = append(n.Entries, api.Entry{Key: fmt.Sprintf("%016d", i), Value: strings.Repeat("v", 40)})
		}
		return w.lay(n)
	}
	n := node.Node{Kids: []int{w.full(depth + 1)}}
	kids := 12
	if depth < w.room {
		kids = 6
	}
	for i := 1; i < kids; i++ {
		prefix := fmt.Sprintf("%02d%02d", 99-depth, i)
		n.Keys = append(n.Keys, prefix+strings.Repeat("_", 12))
		if i == 1 || i == 4 {
			n.Kids = append(n.Kids, w.wide(depth+1, prefix))
		} else {
			n.Kids = append(n.Kids, w.thin(depth+1, n.Keys[i-1]))
		}
	}
	return w.lay(n)
}

// TestNoRootAboveTheDeepest: a tree that is as deep as may be does not grow any more.
func TestNoRootAboveTheDeepest(t *testing.T) {
	for _, c := range []struct {
		bottom, room int
		err          api.Errno
	}{{22, 0, api.OK}, {23, 0, api.ErrCorrupt}, {23, 1, api.OK}, {23, 22, api.OK}} {
		w := &tower{t: t, f: newFile(16384), next: 2, bottom: c.bottom, room: c.room}
		root := w.full(0)
		w.f.Sync()
		x := alloc.New(w.f, nil, w.next)
		look(t, x, root).whole()
		old := entriesOf(t, x, root)
		u := New(x, root)
		key := fmt.Sprintf("%016d", 4)
		if err := u.Put(key, strings.Repeat("v", 40)); err != c.err || u.Err() != c.err {
			t.Fatal(c.bottom, err)
		}
		if !slices.Equal(entriesOf(t, x, root), old) {
			t.Error(c.bottom, "the old root")
		}
		if c.err != api.OK {
			if len(x.Taken()) != 0 {
				t.Error(x.Taken())
			}
			continue
		}
		look(t, x, u.Root()).whole()
		if l := entriesOf(t, x, u.Root()); len(l) != len(old)+1 {
			t.Error(len(l), len(old))
		}
		if l, err := u.Walk(); err != api.OK || slices.MaxFunc(l, func(a, b Page) int { return a.Depth - b.Depth }).Depth != 23 {
			t.Error(err)
		}
	}
}

// TestChangesAtTheDeepest: kids beside one another are joined at the greatest depth too.
func TestChangesAtTheDeepest(t *testing.T) {
	w := &tower{t: t, f: newFile(16384), next: 2, bottom: 23}
	root := w.full(0)
	w.f.Sync()
	x := alloc.New(w.f, nil, w.next)
	u := New(x, root)
	l := entriesOf(t, x, root)
	for i, e := range l {
		if was, err := u.Delete(e.Key); !was || err != api.OK {
			t.Fatal(i, was, err)
		}
		if i < 10 || i%40 == 0 {
			now := look(t, x, u.Root())
			now.whole()
			now.fresh()
			if !slices.Equal(now.entries(), l[i+1:]) {
				t.Fatal(i)
			}
		}
	}
	if u.Root() != 0 || len(x.Taken()) != 0 {
		t.Error(u.Root(), x.Taken())
	}
}

// TestAnyPages: pages of any nodes that hang on one another in any way. Nothing panics, all of it ends, and pages that are not fresh are not written.
func TestAnyPages(t *testing.T) {
	r := rand.New(rand.NewSource(13))
	for range 400 {
		f := newFile(64)
		x := lay(t, f, anyNodes(r, 2+r.Intn(28))...)
		before := sectors(t, f)
		u := New(x, 2+r.Intn(4))
		for range 60 {
			key := anyKey(r)
			switch r.Intn(6) {
			case 0, 1:
				u.Put(key, strings.Repeat("v", r.Intn(41)))
			case 2, 3:
				u.Delete(key)
			case 4:
				l, err := u.Scan(key, anyKey(r))
				if err != api.OK && len(l) > 0 || !slices.IsSortedFunc(l, func(a, b api.Entry) int { return strings.Compare(a.Key, b.Key) }) {
					t.Fatal(l, err)
				}
			case 5:
				u.Walk()
				u.Next(key)
			}
			if u.Err() != api.OK {
				u = New(x, 2+r.Intn(4))
			}
		}
		if x.Flush() != api.OK {
			t.Fatal("Flush")
		}
		after := sectors(t, f)
		for id := range before {
			if !x.Fresh(id) && before[id] != after[id] {
				t.Fatal("written", id)
			}
		}
	}
}

func anyKey(r *rand.Rand) string {
	return strings.Repeat(string([]byte{byte('a' + r.Intn(26))}), 1+r.Intn(16))
}

// anyNodes are nodes that fit, whose kids are mostly those behind them.
func anyNodes(r *rand.Rand, count int) []node.Node {
	var nodes []node.Node
	for i := range count {
		n := node.Node{Leaf: r.Intn(3) > 0 || i == count-1}
		keys := map[string]bool{}
		for range r.Intn(9) {
			keys[anyKey(r)] = true
		}
		var l []string
		for key := range keys {
			l = append(l, key)
		}
		slices.Sort(l)
		if n.Leaf {
			n = leafNode(l...)
		} else {
			n.Keys = l
			for range len(l) + 1 {
				if r.Intn(30) == 0 {
					n.Kids = append(n.Kids, 2+r.Intn(count))
				} else {
					n.Kids = append(n.Kids, 3+i+r.Intn(count-i-1))
				}
			}
		}
		for !node.Fits(n) {
			n, _, _ = node.Split(n)
		}
		nodes = append(nodes, n)
	}
	return nodes
}
