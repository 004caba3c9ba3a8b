package strict_test

import (
	"math/rand"
	"slices"
	"strings"
	"testing"

	"rootstock/alloc"
	"rootstock/api"
	"rootstock/cowtree"
	"rootstock/disk"
	"rootstock/node"
	"rootstock/pagefile"
	"rootstock/strict"
)

// keys are some of any length, many of which begin alike.
func keys() []string {
	r := rand.New(rand.NewSource(1))
	l := []string{"\x00", strings.Repeat("\x00", 16), strings.Repeat("\xff", 16), "\xff", "a"}
	for range 300 {
		b := make([]byte, 1+r.Intn(16))
		for i := range b {
			b[i] = []byte{0, 1, 'a', 'b', 254, 255}[r.Intn(6)]
		}
		l = append(l, string(b), string(b[:(len(b)+1)/2]))
	}
	slices.Sort(l)
	return slices.Compact(l)
}

// flushed is a tree on a file, of which no page is fresh.
func flushed(t *testing.T) (f *pagefile.File, root, pages int) {
	t.Helper()
	f = pagefile.New(disk.New(1000))
	x := alloc.New(f, nil, 2)
	u := cowtree.New(x, 0)
	for i, key := range keys() {
		if err := u.Put(key, strings.Repeat("x", i%20)); err != api.OK {
			t.Fatal(err)
		}
	}
	if err := x.Flush(); err != api.OK {
		t.Fatal(err)
	}
	return f, u.Root(), x.Pages()
}

// harm makes one byte of a page another one, or that one again.
func harm(f *pagefile.File, id int) {
	s, _ := f.Disk.Read(id)
	b := []byte(s)
	b[20] ^= 1
	f.Disk.Write(id, string(b))
}

// spans are some keys and texts, two by two.
func spans() [][2]string {
	l := keys()
	var out [][2]string
	for i := range l {
		if i%40 == 0 {
			out = append(out, [2]string{l[i], l[i]}, [2]string{l[i], l[(i*7+3)%len(l)]}, [2]string{l[i], l[min(i+12, len(l)-1)]}, [2]string{l[i] + "\x00", l[i] + strings.Repeat("\xff", 16)}, [2]string{l[i], ""})
		}
	}
	return append(out, [2]string{"", ""}, [2]string{"", "\x00"}, [2]string{"a", "b"}, [2]string{strings.Repeat("\xff", 17), ""})
}

// hold holds that an error is what a tree tells that is just read, and that behind one, and only then, the strict one is done with.
func hold(t *testing.T, u *cowtree.Tree, root int, err, want api.Errno) {
	t.Helper()
	if err != want || u.Err() != want || want == api.OK && u.Root() != root {
		t.Error(err, u.Err(), want, u.Root())
	}
}

// TestSpoiltPages: with any page spoilt.
func TestSpoiltPages(t *testing.T) {
	f, root, pages := flushed(t)
	open := func() *cowtree.Tree { return cowtree.New(alloc.New(f, nil, pages), root) }
	errs, fine := 0, 0
	for id := 1; id < pages; id++ {
		if id > 1 {
			harm(f, id)
		}
		for _, s := range spans() {
			want, err := open().Scan(s[0], s[1])
			u := open()
			l, got := strict.Tree{Tree: u}.Scan(s[0], s[1])
			if !slices.Equal(l, want) {
				t.Errorf("%q: %q", s, l)
			}
			hold(t, u, root, got, err)
			value, there, err := open().Get(s[0])
			u = open()
			is, ok, got := strict.Tree{Tree: u}.Get(s[0])
			if is != value || ok != there {
				t.Errorf("%q: %q, %v", s, is, ok)
			}
			hold(t, u, root, got, err)
			if err != api.OK {
				errs++
			} else {
				fine++
			}
		}
		if id > 1 {
			harm(f, id)
		}
	}
	if errs < 100 || fine < 100 {
		t.Error(errs, fine)
	}
}

// TestNotWhole: so it is with trees that are not whole: pages that are their own kids, and keys that their parents do not say.
func TestNotWhole(t *testing.T) {
	r := rand.New(rand.NewSource(2))
	some := keys()
	errs := 0
	for range 60 {
		f := pagefile.New(disk.New(20))
		for id := 2; id < 12; id++ {
			n := node.Node{Leaf: r.Intn(3) > 0}
			at := r.Intn(len(some) - 60)
			for i := range 3 {
				key := some[at+i*20]
				n.Entries = append(n.Entries, api.Entry{Key: key})
				n.Kids = append(n.Kids, 2+r.Intn(11))
				n.Keys = append(n.Keys, key)
			}
			if n.Leaf {
				n.Kids, n.Keys = nil, nil
			} else {
				n.Entries, n.Keys = nil, n.Keys[:2]
			}
			kind, body, err := node.Encode(n)
			if err != api.OK {
				t.Fatal(err)
			}
			f.Write(id, kind, body)
		}
		open := func() *cowtree.Tree { return cowtree.New(alloc.New(f, nil, 12), 2) }
		for _, s := range spans() {
			_, err := open().Scan(s[0], s[1])
			u := open()
			_, got := strict.Tree{Tree: u}.Scan(s[0], s[1])
			hold(t, u, 2, got, err)
			if err != api.OK {
				errs++
			}
			_, _, err = open().Get(s[0])
			u = open()
			_, _, got = strict.Tree{Tree: u}.Get(s[0])
			hold(t, u, 2, got, err)
		}
	}
	if errs < 300 {
		t.Error(errs)
	}
}

// TestDown: so it is without power, also when that is back.
func TestDown(t *testing.T) {
	f, root, pages := flushed(t)
	f.Disk.Break(0)
	f.Write(900, api.KindLeaf, "")
	a := cowtree.New(alloc.New(f, nil, pages), root)
	b := cowtree.New(alloc.New(f, nil, pages), root)
	if _, err := (strict.Tree{Tree: a}).Scan("a", "b"); err != api.ErrDown {
		t.Error(err)
	}
	if _, _, err := (strict.Tree{Tree: b}).Get("a"); err != api.ErrDown {
		t.Error(err)
	}
	f.Disk.Crash(nil, 0, 0)
	if a.Err() != api.ErrDown || b.Err() != api.ErrDown {
		t.Error(a.Err(), b.Err())
	}
	if _, err := (strict.Tree{Tree: a}).Scan("", ""); err != api.ErrDown {
		t.Error(err)
	}
}

// TestNone: a tree that is nil has nothing.
func TestNone(t *testing.T) {
	if l, err := (strict.Tree{}).Scan("", ""); len(l) != 0 || err != api.OK {
		t.Error(l, err)
	}
	if value, there, err := (strict.Tree{}).Get("a"); value != "" || there || err != api.OK {
		t.Error(value, there, err)
	}
}
