package catalog

import (
	"fmt"
	"slices"
	"strings"
	"testing"

	"rootstock/alloc"
	"rootstock/api"
	"rootstock/cowtree"
	"rootstock/pagefile"
)

// notAsTold are entries that are none of a catalogue, though their keys begin as if they were.
func notAsTold() []api.Entry {
	var l []api.Entry
	right := four(1) + four(2) + four(3)
	for _, key := range []string{"", "x", four(7)[:3], four(7) + "\x00", four(0), four(greatest + 1), four(1 << 24), "\xff\xff\xff\xff", strings.Repeat("\xff", 15), "\x00", "0001", four(1) + four(1)} {
		l = append(l, api.Entry{Key: "V" + key, Value: right})
	}
	for _, id := range []int{1, 7, 300, greatest} {
		for _, value := range []string{"", "\x00", right[:11], right[:4], right + "\x00", strings.Repeat("\xff", 12), strings.Repeat("0", 40), four(greatest+1) + right[4:], four(1<<31) + right[4:]} {
			l = append(l, api.Entry{Key: "V" + four(id), Value: value})
		}
	}
	for _, key := range []string{"", "A", "Main", "a b", "aé", "0123456789abc", "x\x00", "\xff", strings.Repeat("\xff", 15), "\x00", "_", strings.Repeat("z", 15)} {
		l = append(l, api.Entry{Key: "H" + key, Value: four(1)})
	}
	for _, name := range []string{"main", "x", "a-2", "zzzzzzzzzzzz"} {
		for _, value := range []string{"", "\x01", "\x00\x00\x01", four(1) + "\x00", four(1) + four(1), four(0), four(greatest + 1), "\xff\xff\xff\xff", "main"} {
			l = append(l, api.Entry{Key: "H" + name, Value: value})
		}
	}
	return l
}

// met is what a catalogue tells that has an entry which is not as told: the plain one, but for who meets that.
type met struct {
	*plain
	bad string
}

func (m met) one(key string, none bool, err api.Errno) api.Errno {
	switch {
	case key == m.bad:
		return api.ErrCorrupt
	case none:
		return err
	}
	return api.OK
}

func (m met) ofVersion(id int) api.Errno {
	if id < 1 || id > greatest {
		return api.ErrVersion
	}
	return m.one("V"+four(id), m.version(id) < 0, api.ErrVersion)
}

func (m met) ofBranch(name string) api.Errno {
	if !isName(name) {
		return api.ErrBranch
	}
	return m.one("H"+name, m.branch(name) < 0, api.ErrBranch)
}

func (m met) ofAll(first string) api.Errno {
	if strings.HasPrefix(m.bad, first) {
		return api.ErrCorrupt
	}
	return api.OK
}

// first is the first error of some.
func first(errs ...api.Errno) api.Errno {
	for _, err := range errs {
		if err != api.OK {
			return err
		}
	}
	return api.OK
}

func (m met) drop(id int) api.Errno {
	return first(m.ofVersion(id), m.ofAll("H"), m.clone().drop(id))
}

func (m met) make(name string, head int) api.Errno {
	if !isName(name) {
		return api.ErrName
	}
	switch err := m.ofBranch(name); err {
	case api.OK:
		return api.ErrTaken
	case api.ErrCorrupt:
		return err
	}
	return first(m.ofVersion(head), m.ofAll("H"), m.clone().make(name, head))
}

func (m met) move(name string, head int) api.Errno {
	return first(m.ofBranch(name), m.ofVersion(head))
}

// lay is a small catalogue.
func lay(t *testing.T) *both {
	b := newBoth(t, 400)
	b.put(api.Version{ID: 1})
	b.put(api.Version{ID: 300, Parent: 1, Root: 9, Edges: 4})
	b.put(api.Version{ID: 2, Parent: 300})
	b.make("main", 1)
	b.make("a-2", 300)
	return b
}

// TestNotAsTold: an entry that is not as told is told where it is met, and by those calls alone. It is no error of the tree, which goes on.
func TestNotAsTold(t *testing.T) {
	for _, e := range notAsTold() {
		b := lay(t)
		if err := b.tree.Put(e.Key, e.Value); err != api.OK {
			t.Fatal(err)
		}
		m := met{b.plain, e.Key}
		check := unchanged(t, b.tree)
		if l, err := b.c.Versions(); err != m.ofAll("V") || err == api.OK && !slices.Equal(l, b.versions) || err != api.OK && len(l) > 0 {
			t.Errorf("%q: %v, %v", e, l, err)
		}
		if l, err := b.c.Branches(); err != m.ofAll("H") || err == api.OK && !slices.Equal(l, b.branches) || err != api.OK && len(l) > 0 {
			t.Errorf("%q: %v, %v", e, l, err)
		}
		some := append(ids(), 7, 300)
		for _, id := range some {
			if v, err := b.c.Version(id); err != m.ofVersion(id) || err != api.OK && v != (api.Version{}) || err == api.OK && v != b.versions[b.version(id)] {
				t.Errorf("%q: %d: %v, %v", e, id, v, err)
			}
			if want := m.drop(id); want != api.OK {
				if err := b.c.Drop(id); err != want {
					t.Errorf("%q: %d: %v, not %v", e, id, err, want)
				}
			}
		}
		for _, name := range append(names(), "x", "zzzzzzzzzzzz", "more") {
			if head, err := b.c.Head(name); err != m.ofBranch(name) || err != api.OK && head != 0 || err == api.OK && head != b.branches[b.branch(name)].Head {
				t.Errorf("%q: %q: %d, %v", e, name, head, err)
			}
			for _, id := range some {
				if want := m.make(name, id); want != api.OK {
					if err := b.c.Make(name, id); err != want {
						t.Errorf("%q: %q, %d: %v, not %v", e, name, id, err, want)
					}
				}
				if want := m.move(name, id); want != api.OK {
					if err := b.c.Move(name, id); err != want {
						t.Errorf("%q: %q, %d: %v, not %v", e, name, id, err, want)
					}
				}
			}
		}
		check()
		goOn(t, e, b, m)
	}
}

// goOn does what an entry that is not as told does not hinder.
func goOn(t *testing.T, e api.Entry, b *both, m met) {
	t.Helper()
	if want := m.drop(2); want == api.OK {
		if err := b.c.Drop(2); err != api.OK {
			t.Errorf("%q: %v", e, err)
		}
	}
	if want := m.move("a-2", 300); want == api.OK {
		if err := b.c.Move("a-2", 300); err != api.OK {
			t.Errorf("%q: %v", e, err)
		}
	}
	if want := m.make("more", 300); want == api.OK {
		if err := b.c.Make("more", 300); err != api.OK {
			t.Errorf("%q: %v", e, err)
		}
	}
	// A version is put in the place of what stands for it, whatever that is.
	for _, id := range []int{1, 7, 300, greatest} {
		v := api.Version{ID: id, Parent: 5}
		if err := b.c.Put(v); err != api.OK {
			t.Errorf("%q: %v", e, err)
		}
		if is, err := b.c.Version(id); is != v || err != api.OK {
			t.Errorf("%q: %v, %v", e, is, err)
		}
	}
}

// TestManyAndBad: behind 64 branches one that is not as told is met ahead of the count.
func TestManyAndBad(t *testing.T) {
	b := newBoth(t, 400)
	b.put(api.Version{ID: 1})
	for n := range 64 {
		b.make(fmt.Sprint("b", n), 1)
	}
	// A branch more, by somebody else: it is told as the others are, but none is made.
	b.tree.Put("Hc", four(1))
	b.branches = append(b.branches, api.Branch{Name: "c", Head: 1})
	b.check()
	b.make("d", 1)
	b.tree.Put("Hz", "")
	if err := b.c.Make("d", 1); err != api.ErrCorrupt {
		t.Error(err)
	}
}

// asks are all calls that ask, of what a catalogue may have, with whether all that they told was noughts.
func asks(c *Catalog) map[string]func() (bool, api.Errno) {
	return map[string]func() (bool, api.Errno){
		"Version":  func() (bool, api.Errno) { v, err := c.Version(1); return v == api.Version{}, err },
		"Version2": func() (bool, api.Errno) { v, err := c.Version(greatest); return v == api.Version{}, err },
		"Versions": func() (bool, api.Errno) { l, err := c.Versions(); return len(l) == 0, err },
		"Head":     func() (bool, api.Errno) { h, err := c.Head("main"); return h == 0, err },
		"Head2":    func() (bool, api.Errno) { h, err := c.Head("no"); return h == 0, err },
		"Branches": func() (bool, api.Errno) { l, err := c.Branches(); return len(l) == 0, err },
	}
}

// changes are some of all kinds, each of which writes something in the catalogue of flushed.
func changes() map[string]func(c *Catalog) api.Errno {
	return map[string]func(c *Catalog) api.Errno{
		"Put":      func(c *Catalog) api.Errno { return c.Put(api.Version{ID: 500, Parent: 3}) },
		"PutThere": func(c *Catalog) api.Errno { return c.Put(api.Version{ID: 36, Edges: 999}) },
		"PutLast":  func(c *Catalog) api.Errno { return c.Put(api.Version{ID: greatest, Edges: 999}) },
		"Drop":     func(c *Catalog) api.Errno { return c.Drop(16) },
		"DropLate": func(c *Catalog) api.Errno { return c.Drop(58 * 58) },
		"Make":     func(c *Catalog) api.Errno { return c.Make("main-0", 25) },
		"MakeLast": func(c *Catalog) api.Errno { return c.Make("zzz", 1) },
		"Move":     func(c *Catalog) api.Errno { return c.Move("main", 100) },
		"MoveLate": func(c *Catalog) api.Errno { return c.Move("t-1", 3600) },
	}
}

// vain are calls that are refused there.
func vain() map[string]func(c *Catalog) (got, want api.Errno) {
	return map[string]func(c *Catalog) (got, want api.Errno){
		"DropNone":   func(c *Catalog) (got, want api.Errno) { return c.Drop(17), api.ErrVersion },
		"DropHead":   func(c *Catalog) (got, want api.Errno) { return c.Drop(1), api.ErrHead },
		"MakeTaken":  func(c *Catalog) (got, want api.Errno) { return c.Make("main", 25), api.ErrTaken },
		"MakeOfNone": func(c *Catalog) (got, want api.Errno) { return c.Make("no", 26), api.ErrVersion },
		"MoveNone":   func(c *Catalog) (got, want api.Errno) { return c.Move("no", 25), api.ErrBranch },
		"MoveOff":    func(c *Catalog) (got, want api.Errno) { return c.Move("main", 26), api.ErrVersion },
	}
}

// flushed is a catalogue on a file, of which no page is fresh.
func flushed(t *testing.T, f *pagefile.File) (p *plain, root, pages int) {
	t.Helper()
	x := alloc.New(f, nil, 2)
	u := cowtree.New(x, 0)
	b := &both{t, u, New(u), &plain{}}
	for id := 1; id <= 60; id++ {
		b.put(api.Version{ID: id * id, Parent: id, Root: id * 3, Edges: id})
	}
	b.make("main", 1)
	b.make("t-1", 4)
	for n := range 40 {
		b.make(fmt.Sprint(string(named[n%26]), n), 4+5*(n%2))
	}
	// Keys between and behind those of the catalogue, which it does not read.
	for n := range 30 {
		for _, first := range []string{"A", "N", "Z"} {
			u.Put(first+four(n*n), strings.Repeat("x", 30))
		}
	}
	if err := x.Flush(); err != api.OK {
		t.Fatal(err)
	}
	return b.plain, u.Root(), x.Pages()
}

// harm makes one byte of a page another one, or that one again.
func harm(f *pagefile.File, id int) {
	s, _ := f.Disk.Read(id)
	b := []byte(s)
	b[20] ^= 1
	f.Disk.Write(id, string(b))
}

// refused holds that all calls tell an error, and noughts.
func refused(t *testing.T, c *Catalog, want api.Errno) {
	t.Helper()
	for name, ask := range asks(c) {
		if noughts, err := ask(); !noughts || err != want {
			t.Errorf("%s: %v, not %v", name, err, want)
		}
	}
	for name, change := range changes() {
		if err := change(c); err != want {
			t.Errorf("%s: %v, not %v", name, err, want)
		}
	}
	for name, call := range vain() {
		if err, _ := call(c); err != want {
			t.Errorf("%s: %v, not %v", name, err, want)
		}
	}
}

// doneWith holds that a tree is done with, by an error: all calls tell it, but for what is told of arguments alone.
func doneWith(t *testing.T, u *cowtree.Tree, err api.Errno) {
	t.Helper()
	if u.Err() != err {
		t.Fatal(u.Err(), err)
	}
	c := New(u)
	refused(t, c, err)
	got := []api.Errno{c.Put(api.Version{}), c.Drop(0), c.Make("", 1), c.Move("?", 1)}
	if want := []api.Errno{api.ErrArg, api.ErrVersion, api.ErrName, api.ErrBranch}; !slices.Equal(got, want) {
		t.Error(got, want)
	}
}

// TestFlushed: the changes and the refused calls are what they are named, and the pages are some of them none of the catalogue's.
func TestFlushed(t *testing.T) {
	f := newFile(400)
	p, root, pages := flushed(t, f)
	for name, change := range changes() {
		u := cowtree.New(alloc.New(f, nil, pages), root)
		if err := change(New(u)); err != api.OK || u.Root() == root {
			t.Error(name, err)
		}
	}
	for name, call := range vain() {
		u := cowtree.New(alloc.New(f, nil, pages), root)
		check := unchanged(t, u)
		if got, want := call(New(u)); got != want {
			t.Error(name, got)
		}
		check()
	}
	checkAsked(t, New(cowtree.New(alloc.New(f, nil, pages), root)), p)
}

// TestSpoiltPages: a page that is spoilt is told, or nothing of it is seen. Who just asks leaves the tree as it is; behind a change that came to it, or one that is refused elsewhere, the tree is done with.
func TestSpoiltPages(t *testing.T) {
	f := newFile(400)
	p, root, pages := flushed(t, f)
	told, passed := map[string]int{}, map[string]int{}
	for id := 2; id < pages; id++ {
		harm(f, id)
		open := func() *cowtree.Tree { return cowtree.New(alloc.New(f, nil, pages), root) }
		u := open()
		for name, ask := range asks(New(u)) {
			noughts, err := ask()
			switch {
			case err == api.ErrCorrupt && noughts:
				told[name]++
			case err == api.ErrCorrupt || u.Err() != api.OK:
				t.Error(id, name, noughts, err, u.Err())
			default:
				passed[name]++
			}
		}
		checkRight(t, New(u), p)
		for name, change := range changes() {
			u := open()
			switch err := change(New(u)); err {
			case api.ErrCorrupt:
				told[name]++
				doneWith(t, u, err)
			case api.OK:
				passed[name]++
				if u.Err() != api.OK {
					t.Error(id, name, u.Err())
				}
			default:
				t.Error(id, name, err)
			}
		}
		for name, call := range vain() {
			u := open()
			switch err, want := call(New(u)); err {
			case api.ErrCorrupt:
				told[name]++
				doneWith(t, u, err)
			case want:
				passed[name]++
				if u.Err() != api.OK || u.Root() != root {
					t.Error(id, name, u.Err())
				}
			default:
				t.Error(id, name, err)
			}
		}
		harm(f, id)
	}
	if n := len(asks(nil)) + len(changes()) + len(vain()); len(told) != n || len(passed) != n {
		t.Error(told, passed)
	}
	checkAsked(t, New(cowtree.New(alloc.New(f, nil, pages), root)), p)
}

// checkRight holds that what is told by a catalogue with a page that is spoilt is right.
func checkRight(t *testing.T, c *Catalog, p *plain) {
	t.Helper()
	for id := 1; id < 70; id++ {
		i := p.version(id * id)
		if v, err := c.Version(id * id); err == api.OK && (i < 0 || v != p.versions[i]) || err == api.ErrVersion && i >= 0 {
			t.Error(id, v, err)
		}
	}
	for _, b := range p.branches {
		if h, err := c.Head(b.Name); err == api.OK && h != b.Head || err == api.ErrBranch {
			t.Error(b, h, err)
		}
	}
	if l, err := c.Versions(); err == api.OK && !slices.Equal(l, p.versions) {
		t.Error(l)
	}
	if l, err := c.Branches(); err == api.OK && !slices.Equal(l, p.branches) {
		t.Error(l)
	}
}

// TestFull: on a disk of any size all is told as it should be, till there is no page left; then the tree is done with.
func TestFull(t *testing.T) {
	for sectors := 2; sectors < 20; sectors++ {
		u := newTree(sectors)
		c, p := New(u), &plain{}
		err := api.OK
		for i := 1; err == api.OK; i++ {
			v := api.Version{ID: i * 7 % 211 * 11, Root: i}
			name := fmt.Sprint(string(named[i%26]), i)
			switch {
			case i%3 > 0 || len(p.branches) > 50:
				if err = c.Put(v); err == api.OK {
					p.put(v)
				}
			default:
				head := p.versions[i%len(p.versions)].ID
				if err = c.Make(name, head); err == api.OK {
					p.make(name, head)
				}
			}
			if err == api.OK {
				checkAsked(t, c, p)
			}
		}
		if err != api.ErrFull {
			t.Fatal(sectors, err)
		}
		doneWith(t, u, api.ErrFull)
	}
}

// TestFullChanges: so it is with a change of what was there, that must take other pages: each of them may be the one that is not there any more.
func TestFullChanges(t *testing.T) {
	_, _, least := flushed(t, newFile(400))
	full, fine := map[string]int{}, map[string]int{}
	for more := range 12 {
		f := newFile(least + more)
		p, root, pages := flushed(t, f)
		for name, change := range changes() {
			u := cowtree.New(alloc.New(f, nil, pages), root)
			switch err := change(New(u)); err {
			case api.OK:
				fine[name]++
			case api.ErrFull:
				full[name]++
				doneWith(t, u, err)
			default:
				t.Fatal(more, name, err)
			}
		}
		checkAsked(t, New(cowtree.New(alloc.New(f, nil, pages), root)), p)
	}
	if len(full) != len(changes()) || len(fine) != len(changes()) {
		t.Error(full, fine)
	}
}

// TestDown: without power nothing is read; a tree that was to be changed then is done with, even when the power is back.
func TestDown(t *testing.T) {
	f := newFile(400)
	p, root, pages := flushed(t, f)
	asked := cowtree.New(alloc.New(f, nil, pages), root)
	f.Disk.Break(0)
	f.Write(399, api.KindLeaf, "")
	for name, ask := range asks(New(asked)) {
		if noughts, err := ask(); err != api.ErrDown || !noughts {
			t.Error(name, noughts, err)
		}
	}
	var done []*cowtree.Tree
	try := func(name string, do func(c *Catalog) api.Errno) {
		u := cowtree.New(alloc.New(f, nil, pages), root)
		if err := do(New(u)); err != api.ErrDown {
			t.Error(name, err)
		}
		done = append(done, u)
	}
	for name, change := range changes() {
		try(name, change)
	}
	for name, call := range vain() {
		try(name, func(c *Catalog) api.Errno { err, _ := call(c); return err })
	}
	f.Disk.Crash(nil, 0, 0)
	for _, u := range done {
		doneWith(t, u, api.ErrDown)
	}
	checkAsked(t, New(asked), p)
}

// TestFewReads: who asks for one thing, or changes it, does not go through all versions.
func TestFewReads(t *testing.T) {
	f := newFile(8000)
	x := alloc.New(f, nil, 2)
	b := &both{t, cowtree.New(x, 0), nil, &plain{}}
	b.c = New(b.tree)
	for id := range 3000 {
		if err := b.c.Put(api.Version{ID: id + 1, Parent: id}); err != api.OK {
			t.Fatal(err)
		}
	}
	b.c.Make("main", 3000)
	if err := x.Flush(); err != api.OK {
		t.Fatal(err)
	}
	p, _ := b.tree.Walk()
	root, pages := b.tree.Root(), x.Pages()
	for name, do := range map[string]func(c *Catalog) api.Errno{
		"Version":  func(c *Catalog) api.Errno { _, err := c.Version(1234); return err },
		"Head":     func(c *Catalog) api.Errno { _, err := c.Head("main"); return err },
		"Branches": func(c *Catalog) api.Errno { _, err := c.Branches(); return err },
		"Put":      func(c *Catalog) api.Errno { return c.Put(api.Version{ID: 1234}) },
		"Drop":     func(c *Catalog) api.Errno { return c.Drop(1234) },
		"Make":     func(c *Catalog) api.Errno { return c.Make("b", 1234) },
		"Move":     func(c *Catalog) api.Errno { return c.Move("main", 1234) },
	} {
		was := f.Disk.Reads()
		if err := do(New(cowtree.New(alloc.New(f, nil, pages), root))); err != api.OK {
			t.Error(name, err)
		}
		if is := f.Disk.Reads(); is-was > 60 || len(p) < 200 {
			t.Error(name, is-was, len(p))
		}
	}
}
