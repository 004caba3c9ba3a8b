package tour

import (
	"slices"
	"testing"

	"rootstock/alloc"
	"rootstock/api"
	"rootstock/cowtree"
	"rootstock/pagefile"
	"rootstock/seq"
)

// lay is a tree of keys with sequences.
func lay(t *testing.T, lists ...[]api.Token) *cowtree.Tree {
	t.Helper()
	u := newTree(400)
	s := seq.New(u)
	for _, l := range lists {
		for i, k := range l {
			if err := s.Make(k); err != api.OK {
				t.Fatal(k, err)
			}
			if i > 0 && s.Join(l[0], k) != api.OK {
				t.Fatal(k)
			}
		}
	}
	return u
}

// l is a list of tokens, by their numbers.
func l(numbers ...int) []api.Token {
	var l []api.Token
	for i := 0; i < len(numbers); i += 2 {
		l = append(l, api.Token{A: numbers[i], B: numbers[i+1]})
	}
	return l
}

// sameKeys holds that a tree of keys has just those keys and values that it had.
func sameKeys(t *testing.T, u *cowtree.Tree) func(what string) {
	t.Helper()
	was, _ := u.Scan("", "")
	return func(what string) {
		t.Helper()
		if is, err := u.Scan("", ""); err != api.OK || u.Err() != api.OK || !slices.Equal(is, was) {
			t.Error(what, "changed something", err, u.Err())
		}
	}
}

// TestNoTour: sequences that are no tours, where that is met.
func TestNoTour(t *testing.T) {
	for name, c := range map[string]struct {
		list []api.Token
		size bool // whether it has as many tokens as a tour
	}{
		"no vertex at the end":      {l(1, 1, 1, 2, 2, 1), false},
		"a way that is not back":    {l(1, 1, 1, 2, 2, 2), false},
		"a round trip":              {l(1, 1, 1, 2, 2, 2, 2, 3, 3, 3, 3, 1), false},
		"a round trip and two ways": {l(1, 1, 1, 2, 2, 2, 2, 3, 3, 3, 3, 4, 4, 4, 4, 1, 1, 3, 3, 1), true},
		"two vertices too many":     {l(1, 1, 1, 2, 2, 2, 2, 1, 3, 3, 4, 4, 5, 5), true},
		"not side by side":          {l(1, 1, 2, 2, 1, 2, 2, 1), true},
		"the last and the first":    {l(1, 1, 1, 2, 2, 2, 2, 3, 3, 3, 4, 4, 3, 2), true},
		"four vertices":             {l(1, 1, 2, 2, 3, 3, 4, 4), true},
		"no vertex twice":           {l(1, 1, 1, 2, 2, 3, 3, 1, 1, 3, 3, 2, 2, 1), true},
	} {
		u := lay(t, c.list)
		f := New(u)
		check := sameKeys(t, u)
		if w, err := f.Walk(1); len(w) != 0 || err != api.ErrCorrupt {
			t.Error(name, w, err)
		}
		if m, err := f.Members(1); len(m) != 0 || err != api.ErrCorrupt {
			t.Error(name, m, err)
		}
		if n, err := f.Size(1); c.size != (err == api.OK) || !c.size && (n != 0 || err != api.ErrCorrupt) {
			t.Error(name, n, err)
		}
		check(name)
	}
}

// TestNoCut: edges that are not as a tour has them; nothing is changed.
func TestNoCut(t *testing.T) {
	for name, lists := range map[string][][]api.Token{
		"no way back":                   {l(1, 1, 1, 2, 2, 2)},
		"the way back elsewhere":        {l(1, 1, 1, 2, 2, 2), l(2, 1)},
		"no vertex between":             {l(1, 1, 1, 2, 2, 1, 2, 2)},
		"both vertices between":         {l(1, 2, 2, 2, 1, 1, 2, 1)},
		"none between":                  {l(1, 1, 1, 2, 2, 1, 1, 3, 3, 3, 3, 1, 2, 2)},
		"none between, the way back":    {l(2, 1, 1, 2, 1, 1, 2, 2)},
		"the wrong one between":         {l(2, 2, 1, 2, 1, 1, 2, 1)},
		"so with the way back ahead":    {l(2, 1, 2, 2, 1, 2, 1, 1)},
		"both between, the way back":    {l(2, 1, 2, 2, 1, 1, 1, 2)},
		"the first one is not there":    {l(1, 2, 2, 2, 2, 1)},
		"the second one is not there":   {l(1, 1, 1, 2, 2, 1)},
		"the second one is elsewhere":   {l(1, 1, 1, 2, 3, 3, 2, 1), l(2, 2)},
		"the first one is elsewhere":    {l(1, 2, 2, 2, 2, 1), l(1, 1)},
		"all of them are elsewhere":     {l(1, 1), l(2, 2), l(1, 2), l(2, 1)},
		"nothing but the edge is there": {l(1, 2, 2, 1)},
	} {
		u := lay(t, lists...)
		check := sameKeys(t, u)
		if err := New(u).Cut(1, 2); err != api.ErrCorrupt {
			t.Error(name, err)
		}
		check(name)
	}
	// What has just the way back has no edge from 2 to 1.
	u := lay(t, l(1, 1, 1, 2, 2, 2))
	if err := New(u).Cut(2, 1); err != api.ErrAbsent {
		t.Error(err)
	}
}

// TestNoLink: edges of what is not joined; nothing is changed.
func TestNoLink(t *testing.T) {
	whole := [][]api.Token{l(1, 1, 1, 3, 3, 3, 3, 1), l(2, 2, 2, 4, 4, 4, 4, 2)}
	for name, more := range map[string][]api.Token{"a way": l(1, 2), "the way back": l(2, 1), "both": l(2, 1, 1, 2)} {
		u := lay(t, append(whole, more)...)
		check := sameKeys(t, u)
		for _, e := range [][2]int{{1, 2}, {2, 1}} {
			if err := New(u).Link(e[0], e[1]); err != api.ErrCorrupt {
				t.Error(name, err)
			}
			check(name)
		}
	}
}

// TestAlone: a vertex's token that is alone is as none.
func TestAlone(t *testing.T) {
	u := lay(t, l(1, 1), l(2, 2))
	f, p := New(u), newPlain()
	checkAsked(t, f, p, 1, 2, 3)
	links(t, f, p, [2]int{1, 2}, [2]int{3, 2})
	checkAsked(t, f, p, 1, 2, 3)
	cuts(t, f, p, [2]int{3, 2}, [2]int{2, 1})
	checkAsked(t, f, p, 1, 2, 3)
	if u.Root() != 0 {
		t.Error(u.Root())
	}
}

// harmed are other values than one.
func harmed(value string) []string {
	var l []string
	for i := range value {
		b := []byte(value)
		b[i] ^= 1 << (i % 8)
		l = append(l, string(b))
	}
	none := "\xff\xff\xff\xff\xff\xff\xff\xff"
	for at := range 3 {
		l = append(l, value[:8*at]+none+value[8*at+8:], value[:8*at]+bytesOf(api.Token{A: 100, B: 100})+value[8*at+8:])
	}
	return append(l, "", value[1:], value+"\x00")
}

// TestHarmedValues: whichever value of a tour is another one, all calls end; it is told, or nothing of it is seen. Who tells it has changed nothing.
func TestHarmedValues(t *testing.T) {
	file := newFile(400)
	x := alloc.New(file, nil, 2)
	u := cowtree.New(x, 0)
	p := newPlain()
	links(t, New(u), p, twigs(9)...)
	harms, _ := u.Scan("", "")
	var other [][2]int
	for _, e := range twigs(12) {
		other = append(other, [2]int{100 + e[0], 100 + e[1]})
	}
	links(t, New(u), p, other...)
	x.Flush()
	changes := map[string]func(f *Tour) api.Errno{
		"Link":   func(f *Tour) api.Errno { return f.Link(4, 107) },
		"LinkTo": func(f *Tour) api.Errno { return f.Link(107, 2) },
		"Loose":  func(f *Tour) api.Errno { return f.Link(50, 1) },
		"Cut":    func(f *Tour) api.Errno { return f.Cut(2, 0) },
		"CutOff": func(f *Tour) api.Errno { return f.Cut(8, 2) },
	}
	told := map[string]int{}
	for _, e := range harms {
		for _, value := range harmed(e.Value) {
			begin := func() (*cowtree.Tree, *Tour) {
				w := cowtree.New(alloc.New(file, nil, x.Pages()), u.Root())
				w.Put(e.Key, value)
				return w, New(w)
			}
			_, f := begin()
			for what, ask := range asks(f, 4, 0) {
				if noughts, err := ask(); err != api.OK && (err != api.ErrCorrupt || !noughts) {
					t.Fatal(what, err)
				}
			}
			for name, do := range changes {
				w, f := begin()
				check := unchanged(t, w)
				err := do(f)
				if w.Err() != api.OK {
					t.Fatal(name, "a value is no page", w.Err())
				}
				if err == api.OK {
					continue
				}
				if err != api.ErrCorrupt {
					t.Fatal(name, err)
				}
				told[name]++
				check()
				checkAsked(t, f, p, 107)
			}
		}
	}
	if len(told) != 5 {
		t.Error(told)
	}
}

// TestErrorsChangeNothing: one value is wrong, wherever it stands in two tours, while an edge is linked or cut, whichever that is: who tells it has changed nothing, so that all is what it was, when the value is right again.
func TestErrorsChangeNothing(t *testing.T) {
	file := newFile(400)
	x := alloc.New(file, nil, 2)
	u := cowtree.New(x, 0)
	p := newPlain()
	links(t, New(u), p, path(6)...)
	for _, e := range twigs(20) {
		links(t, New(u), p, [2]int{e[0] + 100, e[1] + 100})
	}
	x.Flush()
	type change struct {
		do   func(f *Tour, u, v int) api.Errno
		u, v int
	}
	var changes []change
	for n := range 6 {
		for m := n; m < 20; m += 6 {
			changes = append(changes, change{(*Tour).Link, n, m + 100}, change{(*Tour).Link, m + 100, n})
		}
	}
	for _, e := range twigs(20) {
		changes = append(changes, change{(*Tour).Cut, e[0] + 100, e[1] + 100}, change{(*Tour).Cut, e[1] + 100, e[0] + 100})
	}
	// What is linked is one of no edges, with the first of both tours.
	changes = append(changes, change{(*Tour).Link, 50, 100}, change{(*Tour).Link, 0, 50})
	told, passed := 0, 0
	for _, k := range slices.Concat(p.walk(0), p.walk(100)) {
		key := "N" + bytesOf(k)
		right, _, _ := u.Get(key)
		for _, c := range changes {
			w := cowtree.New(alloc.New(file, nil, x.Pages()), u.Root())
			f := New(w)
			w.Put(key, "short")
			check := unchanged(t, w)
			switch err := c.do(f, c.u, c.v); err {
			case api.OK:
				passed++
				continue
			case api.ErrCorrupt:
				told++
			default:
				t.Fatal(k, c.u, c.v, err)
			}
			check()
			w.Put(key, right)
			if l, err := w.Scan("", ""); err != api.OK || !slices.Equal(l, all(u)) {
				t.Fatal(k, c.u, c.v, err)
			}
			checkAsked(t, f, p, c.u, c.v)
		}
	}
	if told < 1000 || passed < 1000 {
		t.Error(told, passed)
	}
}

// all are the entries of a tree of keys.
func all(u *cowtree.Tree) []api.Entry {
	l, _ := u.Scan("", "")
	return l
}

// harm makes one byte of a page another one, or that one again.
func harm(f *pagefile.File, id int) {
	s, _ := f.Disk.Read(id)
	b := []byte(s)
	b[20] ^= 1
	f.Disk.Write(id, string(b))
}

// flushed is a forest on a file, of which no page is fresh.
func flushed(t *testing.T, f *pagefile.File) (p *plain, root, pages int) {
	t.Helper()
	x := alloc.New(f, nil, 2)
	u := cowtree.New(x, 0)
	p = newPlain()
	links(t, New(u), p, twigs(25)...)
	links(t, New(u), p, [2]int{30, 31}, [2]int{31, 32})
	if err := x.Flush(); err != api.OK {
		t.Fatal(err)
	}
	return p, u.Root(), x.Pages()
}

// changes are some of all kinds, none of which is refused.
func changes() map[string]func(f *Tour) api.Errno {
	return map[string]func(f *Tour) api.Errno{
		"Link":     func(f *Tour) api.Errno { return f.Link(4, 31) },
		"LinkTo":   func(f *Tour) api.Errno { return f.Link(30, 7) },
		"LinkNew":  func(f *Tour) api.Errno { return f.Link(40, 3) },
		"LinkBoth": func(f *Tour) api.Errno { return f.Link(50, 51) },
		"Cut":      func(f *Tour) api.Errno { return f.Cut(1, 0) },
		"CutOff":   func(f *Tour) api.Errno { return f.Cut(2, 8) },
		"CutAll":   func(f *Tour) api.Errno { return f.Cut(32, 31) },
	}
}

// doneWith holds that a tree is done with, by an error: all calls tell it.
func doneWith(t *testing.T, u *cowtree.Tree, err api.Errno) {
	t.Helper()
	if u.Err() != err {
		t.Fatal(u.Err(), err)
	}
	refused(t, New(u), 1, 2, err)
	refused(t, New(u), 77, 78, err)
	refused(t, New(u), 1<<20, 2, api.ErrVertex)
	for name, ask := range asks(New(u), 7, 7) {
		if noughts, is := ask(); !noughts || is != err {
			t.Fatal(name, is)
		}
	}
	if e, g := New(u).Link(7, 7), New(u).Cut(7, 7); e != api.ErrLoop || g != api.ErrLoop {
		t.Fatal(e, g)
	}
}

// TestSpoiltPages: a page that is spoilt is told, or nothing of it is seen. Who just asks leaves the tree as it is; behind a change that came to it the tree is done with.
func TestSpoiltPages(t *testing.T) {
	f := newFile(400)
	p, root, pages := flushed(t, f)
	met, passed := 0, 0
	for id := 2; id < pages; id++ {
		harm(f, id)
		for v := range 9 {
			u := cowtree.New(alloc.New(f, nil, pages), root)
			for name, ask := range asks(New(u), v, 8-v) {
				if noughts, err := ask(); err != api.OK && (err != api.ErrCorrupt || !noughts) || u.Err() != api.OK {
					t.Fatal(id, name, noughts, err, u.Err())
				}
			}
		}
		for name, change := range changes() {
			u := cowtree.New(alloc.New(f, nil, pages), root)
			switch err := change(New(u)); err {
			case api.ErrCorrupt:
				met++
				doneWith(t, u, err)
			case api.OK:
				passed++
				if u.Err() != api.OK {
					t.Fatal(id, name, u.Err())
				}
			default:
				t.Fatal(id, name, err)
			}
		}
		for _, e := range twigs(25) {
			u := cowtree.New(alloc.New(f, nil, pages), root)
			switch err := New(u).Cut(e[id%2], e[1-id%2]); err {
			case api.ErrCorrupt:
				doneWith(t, u, err)
			case api.OK:
			default:
				t.Fatal(id, e, err)
			}
		}
		// What is refused, where the page is met on the way there.
		for _, e := range [][2]int{{0, 1}, {5, 8}, {30, 32}} {
			x := alloc.New(f, nil, pages)
			u := cowtree.New(x, root)
			switch err := New(u).Link(e[0], e[1]); err {
			case api.ErrCorrupt:
				doneWith(t, u, err)
			case api.ErrArg:
				if u.Err() != api.OK || u.Root() != root || len(x.Taken()) != 0 {
					t.Fatal(id, e, u.Err())
				}
			default:
				t.Fatal(id, e, err)
			}
			u = cowtree.New(x, root)
			switch err := New(u).Cut(e[0], e[1]+40); err {
			case api.ErrCorrupt:
				doneWith(t, u, err)
			case api.ErrAbsent:
				if u.Err() != api.OK || u.Root() != root || len(x.Taken()) != 0 {
					t.Fatal(id, e, u.Err())
				}
			default:
				t.Fatal(id, e, err)
			}
		}
		harm(f, id)
	}
	if met == 0 || passed == 0 {
		t.Error(met, passed)
	}
	checkAsked(t, New(cowtree.New(alloc.New(f, nil, pages), root)), p, count(33)...)
}

// TestFull: on a disk of any size all is told as it should be, till there is no page left; then the tree is done with.
func TestFull(t *testing.T) {
	for sectors := 2; sectors < 40; sectors++ {
		u := newTree(sectors)
		f, p := New(u), newPlain()
		var err api.Errno
		for i := 0; err == api.OK; i++ {
			u, v := i, i/2
			if i%7 == 0 {
				v = i + 1000
			}
			err = f.Link(u, v)
			if err == api.OK && p.link(u, v) != api.OK {
				t.Fatal(sectors, u, v)
			}
			if err == api.OK && i%5 == 4 {
				err = f.Cut(v, u)
				if err == api.OK {
					p.cut(v, u)
				}
			}
			if err == api.OK {
				checkAsked(t, f, p, u, v, 0, 1)
			}
		}
		if err != api.ErrFull {
			t.Fatal(sectors, err)
		}
		doneWith(t, u, api.ErrFull)
	}
}

// TestFullChanges: so it is with a change of what was there, that must take other pages: each of them may be the one that is not there any more.
func TestFullChanges(t *testing.T) {
	_, _, least := flushed(t, newFile(400))
	full := map[string]int{}
	for more := range 20 {
		for name, change := range changes() {
			f := newFile(least + more)
			p, root, pages := flushed(t, f)
			u := cowtree.New(alloc.New(f, nil, pages), root)
			switch err := change(New(u)); err {
			case api.OK:
			case api.ErrFull:
				full[name]++
				doneWith(t, u, err)
			default:
				t.Fatal(more, name, err)
			}
			checkAsked(t, New(cowtree.New(alloc.New(f, nil, pages), root)), p, 0, 1, 8, 30, 32, 40)
		}
	}
	if len(full) != len(changes()) {
		t.Error(full)
	}
}

// TestDown: without power nothing is read; a tree that was to be changed then is done with, even when the power is back.
func TestDown(t *testing.T) {
	f := newFile(400)
	p, root, pages := flushed(t, f)
	asked := cowtree.New(alloc.New(f, nil, pages), root)
	f.Disk.Break(0)
	f.Write(399, api.KindLeaf, "")
	for name, ask := range asks(New(asked), 1, 2) {
		if noughts, err := ask(); err != api.ErrDown || !noughts {
			t.Error(name, noughts, err)
		}
	}
	var done []*cowtree.Tree
	for name, change := range changes() {
		u := cowtree.New(alloc.New(f, nil, pages), root)
		if err := change(New(u)); err != api.ErrDown {
			t.Error(name, err)
		}
		done = append(done, u)
	}
	f.Disk.Crash(nil, 0, 0)
	for _, u := range done {
		doneWith(t, u, api.ErrDown)
	}
	checkAsked(t, New(asked), p, count(33)...)
}
