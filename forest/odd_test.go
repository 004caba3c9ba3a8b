package forest

import (
	"maps"
	"slices"
	"strings"
	"testing"

	"rootstock/adj"
	"rootstock/alloc"
	"rootstock/api"
	"rootstock/cowtree"
	"rootstock/pagefile"
	"rootstock/seq"
	"rootstock/tour"
)

// lay is a tree of keys with edges of both kinds, edges of a forest, and tokens that are alone.
func lay(t *testing.T, trees, spares, links, tokens [][2]int) *cowtree.Tree {
	t.Helper()
	u := newTree(400)
	for _, e := range links {
		if err := tour.New(u).Link(e[0], e[1]); err != api.OK {
			t.Fatal(e, err)
		}
	}
	for _, e := range tokens {
		if err := seq.New(u).Make(api.Token{A: e[0], B: e[1]}); err != api.OK {
			t.Fatal(e, err)
		}
	}
	for i, e := range slices.Concat(trees, spares) {
		if err := adj.New(u).Set(e[0], e[1], i < len(trees)); err != api.OK {
			t.Fatal(e, err)
		}
	}
	return u
}

// l is a list of edges, by their vertices.
func l(numbers ...int) (l [][2]int) {
	for i := 0; i < len(numbers); i += 2 {
		l = append(l, [2]int{numbers[i], numbers[i+1]})
	}
	return l
}

// TestNoFit: edges and forest that do not fit together, where that is met; nothing is changed.
func TestNoFit(t *testing.T) {
	add, remove := (*Forest).Add, (*Forest).Remove
	for name, c := range map[string]struct {
		trees, spares, links, tokens [][2]int
		do                           func(f *Forest, u, v int) api.Errno
		u, v                         int
	}{
		"of the forest, that has no edges":           {l(1, 2), nil, nil, nil, remove, 1, 2},
		"of the forest, that has others":             {l(1, 2, 2, 3, 1, 3), nil, l(1, 2, 2, 3), nil, remove, 1, 3},
		"of the forest, which has one of its ways":   {l(1, 2), nil, nil, l(1, 2), remove, 1, 2},
		"not of the forest, that has it":             {l(1, 2), l(2, 3), l(1, 2, 2, 3), nil, remove, 2, 3},
		"not of the forest, that does not join":      {nil, l(1, 2), nil, nil, remove, 2, 1},
		"not of the forest, that joins others":       {l(1, 2, 3, 4), l(2, 3), l(1, 2, 3, 4), nil, remove, 2, 3},
		"not of the forest, which has a way":         {l(1, 2, 2, 3), l(1, 3), l(1, 2, 2, 3), l(1, 3), remove, 1, 3},
		"not of the forest, which has the way back":  {l(1, 2, 2, 3), l(1, 3), l(1, 2, 2, 3), l(3, 1), remove, 1, 3},
		"none, that the forest has":                  {nil, nil, l(1, 2), nil, add, 1, 2},
		"none, of which the forest has a way":        {nil, nil, nil, l(1, 2), add, 1, 2},
		"none, of which the forest has the way back": {nil, nil, nil, l(2, 1), add, 1, 2},
		"so between what is joined":                  {l(1, 2, 2, 3), nil, l(1, 2, 2, 3), l(1, 3), add, 1, 3},
		"so with the way back":                       {l(1, 2, 2, 3), nil, l(1, 2, 2, 3), l(3, 1), add, 1, 3},
		"a bridge to a third tree":                   {l(1, 2, 3, 4), l(1, 3), l(1, 2, 3, 4), nil, remove, 1, 2},
		"a bridge to a vertex alone":                 {l(1, 2), l(1, 3), l(1, 2), nil, remove, 1, 2},
		"a bridge of which there is a way":           {l(1, 2, 2, 3), l(1, 3), l(1, 2, 2, 3), l(1, 3), remove, 1, 2},
		"a bridge of which there is the way back":    {l(1, 2, 2, 3), l(1, 3), l(1, 2, 2, 3), l(3, 1), remove, 1, 2},
		"an edge of the forest out of the tree":      {l(1, 2, 2, 3, 1, 3), nil, l(1, 2, 2, 3), nil, remove, 1, 2},
		"so ahead of a bridge":                       {l(1, 2, 2, 3, 3, 4, 1, 3), l(1, 4), l(1, 2, 2, 3, 3, 4), nil, remove, 2, 1},
		"so at another vertex of the tree":           {l(1, 2, 2, 3, 3, 4, 1, 4), nil, l(1, 2, 2, 3, 3, 4), nil, remove, 2, 3},
	} {
		u := lay(t, c.trees, c.spares, c.links, c.tokens)
		f := New(u)
		check := unchanged(t, u)
		if err := c.do(f, c.u, c.v); err != api.ErrCorrupt {
			t.Error(name, err)
		}
		check()
	}
}

// TestOneOfTwo: an edge of which the two keys tell other things is no bridge, where that is found by a key that is there.
func TestOneOfTwo(t *testing.T) {
	for _, value := range []string{"", "t", "x"} {
		for _, key := range []string{"A" + bytesOf(3, 1), "A" + bytesOf(1, 3)} {
			// Of 1-2 and 2-3 either is cut off: the one part is 1, or 3.
			for _, e := range l(1, 2, 3, 2) {
				u := lay(t, l(1, 2, 2, 3), l(1, 3), l(1, 2, 2, 3), nil)
				u.Delete(key)
				if value != "" {
					u.Put(key, value)
				}
				found := "A" + bytesOf(e[0], 4-e[0])
				check := unchanged(t, u)
				want := api.ErrCorrupt
				switch {
				case key == found && value == "":
					want = api.OK // nothing is found
				case key != found && key == "A"+bytesOf(3, 1):
					want = api.OK // it is not the one that tells whether there is the edge
				}
				if err := New(u).Remove(e[0], e[1]); err != want {
					t.Error(value, key, e, err)
				}
				if want != api.OK {
					check()
				}
			}
		}
	}
}

// harmed are other values than one.
func harmed(value string) []string {
	var l []string
	for i := range value {
		b := []byte(value)
		b[i] ^= 1 << (i % 8)
		l = append(l, string(b))
	}
	return append(l, "", "t", "n", "x", value[1:], value+"\x00", strings.Repeat("\xff", 8)+value[min(8, len(value)):])
}

// changes are some of all kinds, none of which is refused.
func changes() map[string]func(f *Forest) api.Errno {
	return map[string]func(f *Forest) api.Errno{
		"Add":       func(f *Forest) api.Errno { return f.Add(31, 4) },
		"AddSpare":  func(f *Forest) api.Errno { return f.Add(2, 11) },
		"AddNew":    func(f *Forest) api.Errno { return f.Add(40, 3) },
		"AddBoth":   func(f *Forest) api.Errno { return f.Add(51, 50) },
		"Spare":     func(f *Forest) api.Errno { return f.Remove(7, 2) },
		"Bridge":    func(f *Forest) api.Errno { return f.Remove(1, 0) },
		"BridgeOff": func(f *Forest) api.Errno { return f.Remove(2, 5) },
		"Apart":     func(f *Forest) api.Errno { return f.Remove(32, 31) },
		"All":       func(f *Forest) api.Errno { return f.Remove(70, 71) },
	}
}

// TestChanges: they are what they are named.
func TestChanges(t *testing.T) {
	p, _, _ := flushed(t, newFile(400))
	for e, want := range map[api.Pair]bool{{U: 2, V: 7}: false, {U: 0, V: 1}: true, {U: 2, V: 5}: true, {U: 31, V: 32}: true, {U: 70, V: 71}: true} {
		if is, there := p[e]; !there || is != want {
			t.Error(e, is, there)
		}
	}
	for _, e := range l(1, 0, 2, 5) {
		q := maps.Clone(p)
		if q.remove(e[0], e[1]); !slices.Contains(q.near(e[0], true), e[1]) {
			t.Error(e)
		}
	}
}

// flushed is a graph on a file, of which no page is fresh.
func flushed(t *testing.T, f *pagefile.File) (p plain, root, pages int) {
	t.Helper()
	x := alloc.New(f, nil, 2)
	u := cowtree.New(x, 0)
	p = plain{}
	adds(t, New(u), p, web(13)...)
	adds(t, New(u), p, l(30, 31, 31, 32, 70, 71)...)
	if err := x.Flush(); err != api.OK {
		t.Fatal(err)
	}
	return p, u.Root(), x.Pages()
}

// TestHarmedValues: whichever value is another one, all calls end; it is told, or nothing of it is seen. Who tells it has changed nothing: when the value is right again, all is what it was.
func TestHarmedValues(t *testing.T) {
	file := newFile(400)
	p, root, pages := flushed(t, file)
	whole, _ := cowtree.New(alloc.New(file, nil, pages), root).Scan("", "")
	told, passed := map[string]int{}, map[string]int{}
	for _, e := range whole {
		for _, value := range harmed(e.Value) {
			w := cowtree.New(alloc.New(file, nil, pages), root)
			w.Put(e.Key, value)
			for what, ask := range asks(New(w), 4, 0) {
				if noughts, err := ask(); err != api.OK && (err != api.ErrCorrupt || !noughts) || w.Err() != api.OK {
					t.Fatal(what, err, w.Err())
				}
			}
			for name, do := range changes() {
				w := cowtree.New(alloc.New(file, nil, pages), root)
				w.Put(e.Key, value)
				check := unchanged(t, w)
				switch err := do(New(w)); err {
				case api.OK:
					passed[name]++
					continue
				case api.ErrCorrupt, api.ErrThere, api.ErrAbsent:
					told[name]++
				default:
					t.Fatal(name, err)
				}
				check()
				w.Put(e.Key, e.Value)
				if l, err := w.Scan("", ""); err != api.OK || !slices.Equal(l, whole) {
					t.Fatalf("%s, %q, %q: %v", name, e.Key, value, err)
				}
			}
		}
	}
	// An edge between two vertices that have none comes to no value.
	if len(told) != len(changes())-1 || len(passed) != len(changes()) {
		t.Error(told, passed)
	}
	checkAsked(t, New(cowtree.New(alloc.New(file, nil, pages), root)), p, count(33)...)
}

// TestEachEdge: so it is with each edge that there is, where one value is too short, or gone.
func TestEachEdge(t *testing.T) {
	file := newFile(400)
	x := alloc.New(file, nil, 2)
	u := cowtree.New(x, 0)
	p := plain{}
	adds(t, New(u), p, l(0, 1, 1, 2, 2, 3, 3, 0, 3, 4, 4, 5, 5, 3, 5, 1, 7, 8)...)
	x.Flush()
	whole, _ := u.Scan("", "")
	told, passed := 0, 0
	for _, harm := range whole {
		for e := range p {
			for i := range 4 {
				w := cowtree.New(alloc.New(file, nil, x.Pages()), u.Root())
				w.Put(harm.Key, "")
				if i > 1 {
					w.Delete(harm.Key)
				}
				check := unchanged(t, w)
				a, b := e.U, e.V
				if i%2 > 0 {
					a, b = b, a
				}
				switch err := New(w).Remove(a, b); err {
				case api.OK:
					passed++
				case api.ErrCorrupt, api.ErrAbsent:
					told++
					check()
				default:
					t.Fatalf("%q, %v: %v", harm.Key, e, err)
				}
			}
		}
	}
	if told < 100 || passed < 100 {
		t.Error(told, passed)
	}
}

// harm makes one byte of a page another one, or that one again.
func harm(f *pagefile.File, id int) {
	s, _ := f.Disk.Read(id)
	b := []byte(s)
	b[20] ^= 1
	f.Disk.Write(id, string(b))
}

// doneWith holds that a tree is done with, by an error: all calls tell it.
func doneWith(t *testing.T, u *cowtree.Tree, err api.Errno) {
	t.Helper()
	if u.Err() != err {
		t.Fatal(u.Err(), err)
	}
	refused(t, New(u), 1, 2, err)
	refused(t, New(u), 77, 78, err)
	refused(t, New(u), 1<<20, 2, api.ErrVertex, "Edges", "Spanning")
	if e, g := New(u).Add(7, 7), New(u).Remove(7, 7); e != api.ErrLoop || g != api.ErrLoop {
		t.Fatal(e, g)
	}
}

// TestSpoiltPages: a page that is spoilt is told, or nothing of it is seen. Who just asks leaves the tree as it is; behind a change that came to it the tree is done with, also one that is refused.
func TestSpoiltPages(t *testing.T) {
	f := newFile(400)
	p, root, pages := flushed(t, f)
	met, passed := map[string]int{}, map[string]int{}
	all := changes()
	for e := range p {
		all["There"+bytesOf(e.U, e.V)] = func(f *Forest) api.Errno { return f.Add(e.V, e.U) }
		all["Each"+bytesOf(e.U, e.V)] = func(f *Forest) api.Errno { return f.Remove(e.V, e.U) }
		all["Absent"+bytesOf(e.U, e.V)] = func(f *Forest) api.Errno { return f.Remove(e.V, e.U+100) }
	}
	for id := 2; id < pages; id++ {
		harm(f, id)
		u := cowtree.New(alloc.New(f, nil, pages), root)
		for v := range 13 {
			for name, ask := range asks(New(u), v, 13-v) {
				if noughts, err := ask(); err != api.OK && (err != api.ErrCorrupt || !noughts) || u.Err() != api.OK {
					t.Fatal(id, name, noughts, err, u.Err())
				}
			}
			if l, err := New(u).Members(v); err == api.OK && !slices.Equal(l, p.near(v, false)) {
				t.Fatal(id, v, l)
			}
		}
		for name, change := range all {
			x := alloc.New(f, nil, pages)
			u := cowtree.New(x, root)
			switch err := change(New(u)); err {
			case api.ErrCorrupt:
				met[name]++
				doneWith(t, u, err)
			case api.OK:
				passed[name]++
				if u.Err() != api.OK {
					t.Fatal(id, name, u.Err())
				}
			case api.ErrThere, api.ErrAbsent:
				passed[name]++
				if u.Err() != api.OK || u.Root() != root || len(x.Taken()) != 0 {
					t.Fatal(id, name, u.Err())
				}
			default:
				t.Fatal(id, name, err)
			}
		}
		harm(f, id)
	}
	if len(met) != len(all) || len(passed) != len(all) {
		t.Error(met, passed)
	}
	checkAsked(t, New(cowtree.New(alloc.New(f, nil, pages), root)), p, count(33)...)
}

// TestSpoiltBeside: a vertex has so many edges that their keys stand on many pages, each of which may be the one that is spoilt. Keys of no edges among them are told too, but not as the tree's error.
func TestSpoiltBeside(t *testing.T) {
	for _, more := range [][]string{nil, {"\x00", "\x00\x00\x00\x28", "\x00\x00\x00\x30\xff\xff", "\x00\x00\x00\x28" + strings.Repeat("\xff", 7), "\x00\x00\x00\x41" + strings.Repeat("\x01", 7), strings.Repeat("\xff", 11), "\xff"}} {
		file := newFile(800)
		x := alloc.New(file, nil, 2)
		u := cowtree.New(x, 0)
		f, p := New(u), plain{}
		for _, e := range path(60) {
			adds(t, f, p, [2]int{e[0] + 20, e[1] + 20})
		}
		for v := 20; v < 80; v++ {
			adds(t, f, p, [2]int{5, v}, [2]int{6, v})
		}
		removes(t, f, p, [2]int{6, 20})
		for _, k := range more {
			for i := range 12 {
				u.Put("A\x00\x00\x00\x05"+k+strings.Repeat("k", min(i, 11-len(k))), strings.Repeat("x", 40))
			}
		}
		x.Flush()
		given, kept := 0, 0
		for id := 2; id < x.Pages(); id++ {
			harm(file, id)
			u := cowtree.New(alloc.New(file, nil, x.Pages()), u.Root())
			_, beside := u.Scan("A\x00\x00\x00\x05", "A\x00\x00\x00\x06")
			err := New(u).Remove(5, 20)
			switch {
			case beside != api.OK && (err != api.ErrCorrupt || u.Err() != api.ErrCorrupt):
				t.Fatal(id, err, u.Err())
			case beside != api.OK:
				doneWith(t, u, err)
				given++
			case more != nil && err != api.ErrCorrupt, more == nil && err != u.Err():
				t.Fatal(id, err, u.Err())
			case u.Err() == api.OK:
				kept++
			}
			harm(file, id)
		}
		if given < 6 || kept < 6 {
			t.Error(given, kept)
		}
		v := cowtree.New(alloc.New(file, nil, x.Pages()), u.Root())
		if more == nil {
			removes(t, New(v), p, [2]int{5, 20})
			checkAsked(t, New(v), p, 5, 6, 20, 21, 79)
			continue
		}
		check := unchanged(t, v)
		if err := New(v).Remove(5, 20); err != api.ErrCorrupt {
			t.Error(err)
		}
		check()
	}
}

// TestFull: on a disk of any size all is told as it should be, till there is no page left; then the tree is done with.
func TestFull(t *testing.T) {
	for sectors := 2; sectors < 50; sectors++ {
		u := newTree(sectors)
		f, p := New(u), plain{}
		var err api.Errno
		for i := 0; err == api.OK; i++ {
			u, v := i, i/2
			if i%4 == 0 {
				v = i + 1000
			}
			if i%5 == 3 {
				u, v = i-1, i/2
			}
			err = f.Add(u, v)
			if err == api.ErrThere || err == api.ErrLoop {
				err = api.OK
			}
			if err == api.OK {
				p.add(u, v)
			}
			if err == api.OK && i%6 == 5 {
				err = f.Remove(v, u)
				if err == api.OK {
					p.remove(v, u)
				}
			}
			if err == api.OK {
				checkAsked(t, f, p, u, v, 0, 1)
			}
		}
		if err != api.ErrFull {
			t.Fatal(sectors, err)
		}
		doneWith(t, u, api.ErrFull)
	}
}

// TestFullChanges: so it is with a change of what was there, that must take other pages: each of them may be the one that is not there any more.
func TestFullChanges(t *testing.T) {
	_, _, least := flushed(t, newFile(400))
	full, fine := map[string]int{}, map[string]int{}
	for more := range 40 {
		for name, change := range changes() {
			f := newFile(least + more)
			p, root, pages := flushed(t, f)
			u := cowtree.New(alloc.New(f, nil, pages), root)
			switch err := change(New(u)); err {
			case api.OK:
				fine[name]++
			case api.ErrFull:
				full[name]++
				doneWith(t, u, err)
			default:
				t.Fatal(more, name, err)
			}
			checkAsked(t, New(cowtree.New(alloc.New(f, nil, pages), root)), p, 0, 1, 8, 30, 32, 40)
		}
	}
	if len(full) != len(changes()) || len(fine) != len(changes()) {
		t.Error(full, fine)
	}
}

// TestDown: without power nothing is read; a tree that was to be changed then is done with, even when the power is back.
func TestDown(t *testing.T) {
	f := newFile(400)
	p, root, pages := flushed(t, f)
	asked := cowtree.New(alloc.New(f, nil, pages), root)
	f.Disk.Break(0)
	f.Write(399, api.KindLeaf, "")
	for name, ask := range asks(New(asked), 1, 2) {
		if noughts, err := ask(); err != api.ErrDown || !noughts {
			t.Error(name, noughts, err)
		}
	}
	var done []*cowtree.Tree
	for name, change := range changes() {
		u := cowtree.New(alloc.New(f, nil, pages), root)
		if err := change(New(u)); err != api.ErrDown {
			t.Error(name, err)
		}
		done = append(done, u)
	}
	f.Disk.Crash(nil, 0, 0)
	for _, u := range done {
		doneWith(t, u, api.ErrDown)
	}
	checkAsked(t, New(asked), p, count(33)...)
}
