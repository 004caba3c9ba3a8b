package adj

import (
	"slices"
	"strings"
	"testing"

	"rootstock/alloc"
	"rootstock/api"
	"rootstock/cowtree"
	"rootstock/pagefile"
)

// TestNoEdgesMet: entries that are no edges', and whose keys begin with the byte of edges, are told where they are met, and by those calls alone.
func TestNoEdgesMet(t *testing.T) {
	entries := noEdges()
	for _, more := range []string{"\x00", "\x00\x00\x00\x07", "\x00\x00\x00\x07\xff", "\x00\x00\x00\x07\xff\xff\xff\xff", "\x00\x00\x00\x07" + strings.Repeat("\xff", 11), "\x00\x00\x00\x07\x00\x00\x00\x03more", "\x00\x00\x00\x08", "\x00\x0f\xff\xff\xff", "\x00\x10\x00\x00", "xx", strings.Repeat("\xff", 15)} {
		entries = append(entries, api.Entry{Key: "A" + more, Value: "t"})
	}
	met := 0
	for _, e := range entries {
		u := newTree(400)
		a, p := New(u), &plain{}
		sets(t, a, p, [2]int{6, 3}, [2]int{7, 4}, [2]int{8, 3}, [2]int{greatest, 3})
		if u.Put(e.Key, e.Value) != api.OK {
			continue
		}
		check := unchanged(t, u)
		if l, err := a.Edges(); strings.HasPrefix(e.Key, "A") != (err == api.ErrCorrupt) || err == api.ErrCorrupt && len(l) > 0 {
			t.Errorf("%q: %v, %v", e, l, err)
		}
		for _, v := range []int{3, 6, 7, 8, greatest} {
			want := api.OK
			if strings.HasPrefix(e.Key, keyOf(v, 0)[:5]) {
				want = api.ErrCorrupt
				met++
			}
			l, err := a.Near(v)
			if err != want || err == api.OK && !slices.Equal(l, p.near(v)) || err != api.OK && len(l) > 0 {
				t.Errorf("%q: %d: %v, %v", e, v, l, err)
			}
			w, ok, err := a.Pick(v, nil)
			if is, found := p.pick(v, nil); err != want || err == api.OK && (w != is || ok != found) || err != api.OK && (w != 0 || ok) {
				t.Errorf("%q: %d: %v, %v, %v", e, v, w, ok, err)
			}
			// Who asks for one edge does not meet it.
			isTree, is, wrong := p.get(v, 3)
			if tree, there, err := a.Get(v, 3); tree != isTree || there != is || err != wrong {
				t.Errorf("%q: %d: %v, %v, %v", e, v, tree, there, err)
			}
		}
		if tree, there, err := a.Get(3, 7); tree || there || err != api.OK {
			t.Errorf("%q: %v, %v, %v", e, tree, there, err)
		}
		if err := a.Clear(3, 7); err != api.ErrAbsent {
			t.Errorf("%q: %v", e, err)
		}
		check()
		if err := a.Set(7, 3, true); err != api.OK {
			t.Errorf("%q: %v", e, err)
		}
	}
	if met < 20 {
		t.Error(met)
	}
}

// TestOneOfTwo: where just one key of an edge is there, it is that with the lesser vertex ahead that counts for the edge. To set it, or to clear it, makes all right.
func TestOneOfTwo(t *testing.T) {
	for _, bad := range []string{"", "x"} {
		for _, first := range []bool{true, false} {
			lay := func() (*cowtree.Tree, *Adj) {
				u := newTree(40)
				a := New(u)
				a.Set(2, 5, true)
				key := keyOf(2, 5)
				if first {
					key = keyOf(5, 2)
				}
				u.Delete(key)
				if bad != "" {
					u.Put(key, bad)
				}
				return u, a
			}
			u, a := lay()
			for _, e := range [][2]int{{2, 5}, {5, 2}} {
				if tree, there, err := a.Get(e[0], e[1]); tree != first || there != first || err != api.OK {
					t.Error(bad, first, tree, there, err)
				}
			}
			if l, err := a.Edges(); bad == "" && (err != api.OK || len(l) == 1 != first) || bad != "" && err != api.ErrCorrupt {
				t.Error(bad, first, l, err)
			}
			check := unchanged(t, u)
			switch err := a.Clear(5, 2); {
			case first && (err != api.OK || u.Root() != 0):
				t.Error(bad, err, u.Root())
			case !first && err != api.ErrAbsent:
				t.Error(bad, err)
			case !first:
				check()
			}
			for _, tree := range []bool{false, true} {
				u, a := lay()
				p := &plain{}
				a.Set(5, 2, tree)
				p.set(5, 2, tree)
				checkKept(t, u, p)
				checkAsked(t, a, p, 2, 3, 5)
			}
		}
	}
}

// harm makes one byte of a page another one, or that one again.
func harm(f *pagefile.File, id int) {
	s, _ := f.Disk.Read(id)
	b := []byte(s)
	b[20] ^= 1
	f.Disk.Write(id, string(b))
}

// flushed are edges on a file, of which no page is fresh.
func flushed(t *testing.T, f *pagefile.File) (p *plain, root, pages int) {
	t.Helper()
	x := alloc.New(f, nil, 2)
	u := cowtree.New(x, 0)
	p = &plain{}
	sets(t, New(u), p, web(25)...)
	if err := x.Flush(); err != api.OK {
		t.Fatal(err)
	}
	return p, u.Root(), x.Pages()
}

// changes are some of all kinds, each of which writes something.
func changes() map[string]func(a *Adj) api.Errno {
	return map[string]func(a *Adj) api.Errno{
		"SetNew":   func(a *Adj) api.Errno { return a.Set(40, 3, true) },
		"SetBoth":  func(a *Adj) api.Errno { return a.Set(90, 91, true) },
		"SetThere": func(a *Adj) api.Errno { tree, _, _ := a.Get(1, 2); return a.Set(1, 2, !tree) },
		"Clear":    func(a *Adj) api.Errno { return a.Clear(12, 24) },
		"ClearBig": func(a *Adj) api.Errno { return a.Clear(22, 11) },
	}
}

// doneWith holds that a tree is done with, by an error: all calls tell it.
func doneWith(t *testing.T, u *cowtree.Tree, err api.Errno) {
	t.Helper()
	if u.Err() != err {
		t.Fatal(u.Err(), err)
	}
	refused(t, New(u), 1, 2, err)
	refused(t, New(u), 77, 78, err)
	refused(t, New(u), 1<<20, 2, api.ErrVertex, "Edges")
	if e, g := New(u).Set(7, 7, true), New(u).Clear(7, 7); e != api.ErrLoop || g != api.ErrLoop {
		t.Fatal(e, g)
	}
}

// TestSpoiltPages: a page that is spoilt is told, or nothing of it is seen. Who just asks leaves the tree as it is; behind a change that came to it the tree is done with.
func TestSpoiltPages(t *testing.T) {
	f := newFile(400)
	p, root, pages := flushed(t, f)
	met, passed, absent := 0, 0, 0
	for id := 2; id < pages; id++ {
		harm(f, id)
		u := cowtree.New(alloc.New(f, nil, pages), root)
		a := New(u)
		for v := range 26 {
			for name, ask := range asks(a, v, (v+7)%26) {
				if noughts, err := ask(); err != api.OK && (err != api.ErrCorrupt || !noughts) || u.Err() != api.OK {
					t.Fatal(id, name, noughts, err, u.Err())
				}
			}
			if l, err := a.Near(v); err == api.OK && !slices.Equal(l, p.near(v)) {
				t.Fatal(id, v, l)
			}
		}
		if _, err := a.Edges(); err != api.ErrCorrupt {
			t.Fatal(id, err)
		}
		for name, change := range changes() {
			u := cowtree.New(alloc.New(f, nil, pages), root)
			switch err := change(New(u)); err {
			case api.ErrCorrupt:
				met++
				doneWith(t, u, err)
			case api.OK:
				passed++
				if u.Err() != api.OK {
					t.Fatal(id, name, u.Err())
				}
			default:
				t.Fatal(id, name, err)
			}
		}
		// What is refused, where the page is met on the way there.
		for v := 1; v < 25; v++ {
			x := alloc.New(f, nil, pages)
			u := cowtree.New(x, root)
			switch err := New(u).Clear(v, v+50); err {
			case api.ErrCorrupt:
				doneWith(t, u, err)
			case api.ErrAbsent:
				absent++
				if u.Err() != api.OK || u.Root() != root || len(x.Taken()) != 0 {
					t.Fatal(id, v, u.Err())
				}
			default:
				t.Fatal(id, v, err)
			}
		}
		harm(f, id)
	}
	if met == 0 || passed == 0 || absent == 0 {
		t.Error(met, passed, absent)
	}
	checkAsked(t, New(cowtree.New(alloc.New(f, nil, pages), root)), p, count(26)...)
}

// TestFull: on a disk of any size all is told as it should be, till there is no page left; then the tree is done with.
func TestFull(t *testing.T) {
	for sectors := 2; sectors < 30; sectors++ {
		u := newTree(sectors)
		a, p := New(u), &plain{}
		err := api.OK
		for i := 0; err == api.OK; i++ {
			v, w := i*7%50, 50+i*3
			err = a.Set(v, w, i%2 > 0)
			if err == api.OK {
				p.set(v, w, i%2 > 0)
				checkAsked(t, a, p, v, w, 0, 1)
			}
		}
		if err != api.ErrFull {
			t.Fatal(sectors, err)
		}
		doneWith(t, u, api.ErrFull)
	}
}

// TestFullChanges: so it is with a change of what was there, that must take other pages: each of them may be the one that is not there any more.
func TestFullChanges(t *testing.T) {
	_, _, least := flushed(t, newFile(400))
	full, fine := map[string]int{}, map[string]int{}
	for more := range 12 {
		for name, change := range changes() {
			f := newFile(least + more)
			p, root, pages := flushed(t, f)
			u := cowtree.New(alloc.New(f, nil, pages), root)
			switch err := change(New(u)); err {
			case api.OK:
				fine[name]++
			case api.ErrFull:
				full[name]++
				doneWith(t, u, err)
			default:
				t.Fatal(more, name, err)
			}
			checkAsked(t, New(cowtree.New(alloc.New(f, nil, pages), root)), p, 0, 1, 8, 30, 40)
		}
	}
	if len(full) != len(changes()) || len(fine) != len(changes()) {
		t.Error(full, fine)
	}
}

// TestDown: without power nothing is read; a tree that was to be changed then is done with, even when the power is back.
func TestDown(t *testing.T) {
	f := newFile(400)
	p, root, pages := flushed(t, f)
	asked := cowtree.New(alloc.New(f, nil, pages), root)
	f.Disk.Break(0)
	f.Write(399, api.KindLeaf, "")
	for name, ask := range asks(New(asked), 1, 2) {
		if noughts, err := ask(); err != api.ErrDown || !noughts {
			t.Error(name, noughts, err)
		}
	}
	var done []*cowtree.Tree
	for name, change := range changes() {
		u := cowtree.New(alloc.New(f, nil, pages), root)
		if err := change(New(u)); err != api.ErrDown {
			t.Error(name, err)
		}
		done = append(done, u)
	}
	f.Disk.Crash(nil, 0, 0)
	for _, u := range done {
		doneWith(t, u, api.ErrDown)
	}
	checkAsked(t, New(asked), p, count(26)...)
}
