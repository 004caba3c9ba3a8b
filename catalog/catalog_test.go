package catalog

import (
	"fmt"
	"math"
	"slices"
	"strings"
	"testing"

	"rootstock/api"
	"rootstock/cowtree"
)

func TestExamples(t *testing.T) {
	c := New(newTree(40))
	got := []api.Errno{c.Put(api.Version{ID: 1}), c.Make("main", 1), c.Drop(1), c.Make("main", 1), c.Make("Main", 1)}
	if want := []api.Errno{api.OK, api.OK, api.ErrHead, api.ErrTaken, api.ErrName}; !slices.Equal(got, want) {
		t.Error(got, want)
	}
}

// TestBytes: what a tree of keys has of a catalogue, byte by byte.
func TestBytes(t *testing.T) {
	u := newTree(40)
	c := New(u)
	c.Put(api.Version{ID: 1048576, Parent: 258, Root: 16383, Edges: 4294967295})
	c.Put(api.Version{ID: 258, Parent: 1048576, Root: 4294967295, Edges: 1})
	c.Put(api.Version{ID: 1})
	c.Make("main", 1048576)
	c.Make("0-z", 258)
	want := []api.Entry{
		{Key: "H0-z", Value: "\x00\x00\x01\x02"},
		{Key: "Hmain", Value: "\x00\x10\x00\x00"},
		{Key: "V\x00\x00\x00\x01", Value: "\x00\x00\x00\x00\x00\x00\x00\x00\x00\x00\x00\x00"},
		{Key: "V\x00\x00\x01\x02", Value: "\x00\x10\x00\x00\xff\xff\xff\xff\x00\x00\x00\x01"},
		{Key: "V\x00\x10\x00\x00", Value: "\x00\x00\x01\x02\x00\x00\x3f\xff\xff\xff\xff\xff"},
	}
	if l, err := u.Scan("", ""); err != api.OK || !slices.Equal(l, want) {
		t.Errorf("%q, %v", l, err)
	}
}

func TestName(t *testing.T) {
	for _, s := range names() {
		if Name(s) != isName(s) {
			t.Errorf("%q: %v", s, Name(s))
		}
	}
	for b := range 256 {
		one := string([]byte{byte(b)})
		for _, s := range []string{one, "ab" + one, one + "yz", "a" + one + "-", strings.Repeat(one, 12), strings.Repeat(one, 13)} {
			if Name(s) != isName(s) {
				t.Errorf("%q: %v", s, Name(s))
			}
		}
	}
	// Characters of more bytes, also those whose number's last byte is that of a letter.
	for r := rune(128); r < 1<<17; r++ {
		if s := "a" + string(r); Name(s) {
			t.Fatalf("%q", s)
		}
	}
	for n := range 40 {
		if s := strings.Repeat("x", n); Name(s) != (n > 0 && n < 13) {
			t.Error(n)
		}
	}
}

// TestPut: each number at its edges, of a version that is new, and of one that is there.
func TestPut(t *testing.T) {
	fine := api.Version{ID: 7, Parent: 3, Root: 9, Edges: 4}
	numbers := append(ids(), most-1, most+1, 1<<31-1, 1<<31, 77)
	for _, there := range []bool{false, true} {
		b := newBoth(t, 4000)
		if there {
			b.put(fine)
		}
		for _, n := range numbers {
			for i := range 4 {
				v := fine
				switch i {
				case 0:
					v.ID = n
				case 1:
					v.Parent = n
				case 2:
					v.Root = n
				case 3:
					v.Edges = n
				}
				b.put(v)
				b.check()
			}
		}
	}
	b := newBoth(t, 4000)
	for _, id := range numbers {
		for _, root := range numbers {
			b.put(api.Version{ID: id, Parent: id, Root: root, Edges: root})
		}
	}
	b.check()
}

// TestPutAlone: a parent and a root need not be there, nor does it matter whether a version is a head.
func TestPutAlone(t *testing.T) {
	b := newBoth(t, 40)
	b.put(api.Version{ID: 5, Parent: 5, Root: 1})
	b.put(api.Version{ID: 6, Parent: 900, Root: 16384})
	b.make("main", 5)
	b.put(api.Version{ID: 5, Parent: 6, Root: 2, Edges: 3})
	b.check()
	b.drop(6)
	b.check()
}

// TestVersions: IDs of any size come in their order.
func TestVersions(t *testing.T) {
	b := newBoth(t, 2000)
	for _, id := range []int{65536, 1, greatest, 256, 2, 65535, 131072, 255, 257, greatest - 1, 16777, 77} {
		b.put(api.Version{ID: id, Parent: id / 2, Root: id * 3, Edges: id - 1})
		b.check()
	}
	for _, id := range []int{1, 1, 256, greatest, 65535, 77, 3} {
		b.drop(id)
		b.check()
	}
}

// TestDrop: a version that is no head, at first or any more, is dropped; one is kept by any branch.
func TestDrop(t *testing.T) {
	b := newBoth(t, 400)
	for id := range 5 {
		b.put(api.Version{ID: id + 1, Parent: id})
	}
	for _, id := range append(ids(), 4) {
		if id < 1 || id > 5 {
			b.drop(id)
		}
	}
	b.make("a", 1)
	b.make("m", 2)
	b.make("z", 2)
	b.check()
	for _, id := range []int{1, 2} {
		b.drop(id)
	}
	b.drop(3)
	b.drop(3)
	b.move("z", 1)
	b.drop(2)
	b.move("m", 1)
	b.drop(2)
	b.move("a", 2)
	b.move("a", 4)
	b.drop(1)
	b.drop(4)
	b.check()
}

// TestMake: which error is told, of all that are there at once.
func TestMake(t *testing.T) {
	for _, branches := range []int{1, 2, 63, 64} {
		b := newBoth(t, 400)
		b.put(api.Version{ID: 1})
		b.put(api.Version{ID: 300})
		b.make("main", 1)
		for n := 1; n < branches; n++ {
			b.make(fmt.Sprintf("b-%d", n*n), 1+n%2*299)
		}
		if len(b.branches) != branches {
			t.Fatal(len(b.branches))
		}
		b.check()
		for _, name := range append(names(), "b-1", "b-", "b-3") {
			for _, head := range ids() {
				if !isName(name) || b.branch(name) >= 0 || b.version(head) < 0 || branches == 64 {
					b.make(name, head)
				}
			}
		}
		b.check()
		b.make("more", 300)
		b.make("more", 1)
		b.check()
	}
}

// TestMany: with 64 branches there is no other one; each is still moved.
func TestMany(t *testing.T) {
	b := newBoth(t, 400)
	b.put(api.Version{ID: 1})
	b.put(api.Version{ID: 2})
	for n := range 70 {
		b.make(strings.Repeat(named[n%37:][:1], 1+n/7), 1+n%2)
	}
	if len(b.branches) != 64 {
		t.Fatal(len(b.branches))
	}
	b.check()
	for i := range 64 {
		b.move(b.branches[i].Name, 1+i/32)
	}
	b.check()
}

// TestMove: which error is told, of all that are there at once; a head may stay.
func TestMove(t *testing.T) {
	b := newBoth(t, 400)
	b.put(api.Version{ID: 1})
	b.put(api.Version{ID: 256})
	b.make("main", 1)
	b.make("a-2", 256)
	for _, name := range names() {
		for _, head := range ids() {
			if b.branch(name) < 0 || b.version(head) < 0 {
				b.move(name, head)
			}
		}
	}
	b.check()
	for _, head := range []int{1, 256, 256, 1} {
		b.move("main", head)
		b.check()
	}
}

// TestBranches: all names come in the order of their bytes.
func TestBranches(t *testing.T) {
	b := newBoth(t, 400)
	b.put(api.Version{ID: 9})
	for _, name := range []string{"b", "-", "a-", "a", "0", "aa", "a0", "9", "z", "--", "-a", "zzzzzzzzzzzz", "000000000000", "a-a"} {
		b.make(name, 9)
		b.check()
	}
	l, _ := b.c.Branches()
	if !slices.IsSortedFunc(l, func(a, b api.Branch) int { return strings.Compare(a.Name, b.Name) }) || len(l) != 14 {
		t.Error(l)
	}
}

// TestNotShared: who changes what was told changes nothing of the catalogue.
func TestNotShared(t *testing.T) {
	b := newBoth(t, 400)
	b.put(api.Version{ID: 1, Edges: 7})
	b.make("main", 1)
	v, _ := b.c.Versions()
	l, _ := b.c.Branches()
	v[0], l[0] = api.Version{}, api.Branch{}
	b.check()
}

// TestOtherKeys: what begins with another byte does not count, and is not touched.
func TestOtherKeys(t *testing.T) {
	b := newBoth(t, 400)
	var others []api.Entry
	for _, first := range []string{"", "\x00", "A", "G", "I", "U", "W", "h", "v", "\xff"} {
		for _, more := range []string{"", "main", "\x00\x00\x00\x01", strings.Repeat("\xff", 15)} {
			if key := first + more; key != "" {
				others = append(others, api.Entry{Key: key, Value: "\x00\x00\x00\x01"})
			}
		}
	}
	for _, e := range others {
		if err := b.tree.Put(e.Key, e.Value); err != api.OK {
			t.Fatal(err)
		}
	}
	checkAsked(t, b.c, b.plain)
	for id := range 20 {
		b.put(api.Version{ID: id * id * id, Parent: id})
	}
	for n, name := range names() {
		b.make(name, n%4)
	}
	for id := range 30 {
		b.drop(id)
		b.drop(id * id * id)
	}
	checkAsked(t, b.c, b.plain)
	checkKept(t, b.tree, b.plain, others...)
}

// TestByHand: what somebody else has put into the tree of keys is read, and gone on from; so it is with a branch whose head is not there, as the entry of it is as told.
func TestByHand(t *testing.T) {
	b := newBoth(t, 40)
	b.versions = []api.Version{{ID: 3, Parent: 2, Root: 77, Edges: most}, {ID: greatest, Parent: greatest, Root: most}}
	b.branches = []api.Branch{{Name: "lost", Head: 2}, {Name: "main", Head: 3}}
	for _, v := range b.versions {
		e := entryOfVersion(v)
		b.tree.Put(e.Key, e.Value)
	}
	for _, l := range b.branches {
		e := entryOfBranch(l)
		b.tree.Put(e.Key, e.Value)
	}
	b.check()
	b.make("lost", 3)
	b.make("more", 2)
	b.drop(2)
	b.put(api.Version{ID: 2})
	b.drop(2)
	b.move("lost", 3)
	b.drop(2)
	b.check()
}

// TestAllGone: who drops all leaves nothing.
func TestAllGone(t *testing.T) {
	b := newBoth(t, 1000)
	for id := range 300 {
		b.put(api.Version{ID: 1 + id*71, Parent: id, Root: id * 5, Edges: id})
	}
	b.check()
	for id := range 300 {
		b.drop(1 + (id*7%300)*71)
	}
	b.check()
	if b.tree.Root() != 0 {
		t.Error(b.tree.Root())
	}
}

// TestNewOfNil: nil counts as a tree of a change of no file: no page is left for anything.
func TestNewOfNil(t *testing.T) {
	var none *Catalog
	for name, c := range map[string]*Catalog{"nil": New(nil), "zero": {}, "none": none, "nil tree": New((*cowtree.Tree)(nil))} {
		checkAsked(t, c, &plain{})
		for _, e := range [][2]api.Errno{
			{c.Put(api.Version{}), api.ErrArg}, {c.Drop(1), api.ErrVersion}, {c.Drop(0), api.ErrVersion}, {c.Drop(math.MinInt), api.ErrVersion},
			{c.Make("main", 1), api.ErrVersion}, {c.Make("", 1), api.ErrName}, {c.Move("main", 1), api.ErrBranch}, {c.Put(api.Version{ID: 1}), api.ErrFull},
		} {
			if e[0] != e[1] {
				t.Error(name, e)
			}
		}
		if c != nil {
			// By that its tree is done with.
			refused(t, c, api.ErrFull)
		}
	}
	if e := New(nil).Put(api.Version{ID: greatest}); e != api.ErrFull {
		t.Error("they know of one another", e)
	}
}
