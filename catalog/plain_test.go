package catalog

import (
	"cmp"
	"math"
	"slices"
	"strings"
	"testing"

	"rootstock/alloc"
	"rootstock/api"
	"rootstock/cowtree"
	"rootstock/disk"
	"rootstock/pagefile"
)

const (
	greatest = 1048576 // of the IDs
	most     = 1<<32 - 1
	named    = "abcdefghijklmnopqrstuvwxyz0123456789-"
)

// newFile is a file on a disk of its own.
func newFile(sectors int) *pagefile.File {
	return pagefile.New(disk.New(sectors))
}

// newTree is a tree without keys on a disk of its own.
func newTree(sectors int) *cowtree.Tree {
	return cowtree.New(alloc.New(newFile(sectors), nil, 2), 0)
}

// plain is a catalogue by the chapter's words: two lists.
type plain struct {
	versions []api.Version
	branches []api.Branch
}

// isName tells whether a text is a name, byte by byte.
func isName(s string) bool {
	for i := range len(s) {
		if strings.IndexByte(named, s[i]) < 0 {
			return false
		}
	}
	return len(s) >= 1 && len(s) <= 12
}

func (p *plain) version(id int) int {
	return slices.IndexFunc(p.versions, func(v api.Version) bool { return v.ID == id })
}

func (p *plain) branch(name string) int {
	return slices.IndexFunc(p.branches, func(b api.Branch) bool { return b.Name == name })
}

func (p *plain) put(v api.Version) api.Errno {
	switch {
	case v.ID < 1 || v.ID > greatest || v.Parent < 0 || v.Parent > greatest || v.Root < 0 || v.Root > most || v.Edges < 0 || v.Edges > most:
		return api.ErrArg
	case p.version(v.ID) >= 0:
		p.versions[p.version(v.ID)] = v
	default:
		p.versions = append(p.versions, v)
		slices.SortFunc(p.versions, func(a, b api.Version) int { return cmp.Compare(a.ID, b.ID) })
	}
	return api.OK
}

func (p *plain) drop(id int) api.Errno {
	i := p.version(id)
	switch {
	case i < 0:
		return api.ErrVersion
	case slices.ContainsFunc(p.branches, func(b api.Branch) bool { return b.Head == id }):
		return api.ErrHead
	}
	p.versions = slices.Delete(p.versions, i, i+1)
	return api.OK
}

func (p *plain) make(name string, head int) api.Errno {
	switch {
	case !isName(name):
		return api.ErrName
	case p.branch(name) >= 0:
		return api.ErrTaken
	case p.version(head) < 0:
		return api.ErrVersion
	case len(p.branches) >= 64:
		return api.ErrMany
	}
	p.branches = append(p.branches, api.Branch{Name: name, Head: head})
	slices.SortFunc(p.branches, func(a, b api.Branch) int { return cmp.Compare(a.Name, b.Name) })
	return api.OK
}

func (p *plain) move(name string, head int) api.Errno {
	i := p.branch(name)
	switch {
	case i < 0:
		return api.ErrBranch
	case p.version(head) < 0:
		return api.ErrVersion
	}
	p.branches[i].Head = head
	return api.OK
}

func (p *plain) clone() *plain {
	return &plain{slices.Clone(p.versions), slices.Clone(p.branches)}
}

// ids are some IDs, and numbers that are none.
func ids() []int {
	return []int{math.MinInt, -1 << 32, -1, 0, 1, 2, 3, 255, 256, 257, 65535, 65536, greatest - 1, greatest, greatest + 1, 1<<24 + 1, most, 1 << 32, 1<<32 + 1, 1<<33 + 2, math.MaxInt}
}

// names are some names, and texts that are none.
func names() []string {
	return []string{"main", "a", "-", "0", "z", "9", "a-2", "----", "0123456789ab", "0123456789abc", "", "A", "aé", "a b", "main\x00", "\x00", "\xff", "H", "main2"}
}

// checkAsked asks of a catalogue all that may be asked.
func checkAsked(t *testing.T, c *Catalog, p *plain) {
	t.Helper()
	if l, err := c.Versions(); err != api.OK || !slices.Equal(l, p.versions) {
		t.Fatal(l, err, p.versions)
	}
	if l, err := c.Branches(); err != api.OK || !slices.Equal(l, p.branches) {
		t.Fatal(l, err, p.branches)
	}
	some := ids()
	for _, v := range p.versions {
		some = append(some, v.ID, v.ID+1, v.ID-1, v.ID+1<<32)
	}
	for _, id := range some {
		want, is := api.ErrVersion, api.Version{}
		if i := p.version(id); i >= 0 {
			want, is = api.OK, p.versions[i]
		}
		if v, err := c.Version(id); v != is || err != want {
			t.Fatal(id, v, err, want)
		}
	}
	texts := names()
	for _, b := range p.branches {
		texts = append(texts, b.Name, b.Name+"-", b.Name+"\x00", b.Name[1:])
	}
	for _, name := range texts {
		want, is := api.ErrBranch, 0
		if i := p.branch(name); i >= 0 {
			want, is = api.OK, p.branches[i].Head
		}
		if head, err := c.Head(name); head != is || err != want {
			t.Fatalf("%q: %d, %v, not %v", name, head, err, want)
		}
	}
}

// four are the four bytes of a number.
func four(n int) string {
	return string([]byte{byte(n >> 24), byte(n >> 16), byte(n >> 8), byte(n)})
}

// entryOfVersion and entryOfBranch are entries, byte by byte.
func entryOfVersion(v api.Version) api.Entry {
	return api.Entry{Key: "V" + four(v.ID), Value: four(v.Parent) + four(v.Root) + four(v.Edges)}
}

func entryOfBranch(b api.Branch) api.Entry {
	return api.Entry{Key: "H" + b.Name, Value: four(b.Head)}
}

// checkKept holds that a tree of keys has just the entries of the catalogue, and others that are named.
func checkKept(t *testing.T, u *cowtree.Tree, p *plain, others ...api.Entry) {
	t.Helper()
	want := slices.Clone(others)
	for _, b := range p.branches {
		want = append(want, entryOfBranch(b))
	}
	for _, v := range p.versions {
		want = append(want, entryOfVersion(v))
	}
	slices.SortFunc(want, func(a, b api.Entry) int { return cmp.Compare(a.Key, b.Key) })
	if l, err := u.Scan("", ""); err != api.OK || !slices.Equal(l, want) {
		t.Fatalf("%q, %v, not %q", l, err, want)
	}
}

// both are a catalogue and the plain one, to which the same is done.
type both struct {
	t    *testing.T
	tree *cowtree.Tree
	c    *Catalog
	*plain
}

func newBoth(t *testing.T, sectors int) *both {
	u := newTree(sectors)
	return &both{t, u, New(u), &plain{}}
}

// hold holds what a call told against what the plain one did: an error has changed nothing.
func (b *both) hold(got, want api.Errno, root int) {
	b.t.Helper()
	if got != want || got != api.OK && root != b.tree.Root() || b.tree.Err() != api.OK {
		b.t.Fatal(got, want, b.tree.Err())
	}
}

func (b *both) put(v api.Version) {
	b.t.Helper()
	root := b.tree.Root()
	b.hold(b.c.Put(v), b.plain.put(v), root)
}

func (b *both) drop(id int) {
	b.t.Helper()
	root := b.tree.Root()
	b.hold(b.c.Drop(id), b.plain.drop(id), root)
}

func (b *both) make(name string, head int) {
	b.t.Helper()
	root := b.tree.Root()
	b.hold(b.c.Make(name, head), b.plain.make(name, head), root)
}

func (b *both) move(name string, head int) {
	b.t.Helper()
	root := b.tree.Root()
	b.hold(b.c.Move(name, head), b.plain.move(name, head), root)
}

// check holds all that is there against the plain one.
func (b *both) check() {
	b.t.Helper()
	checkAsked(b.t, b.c, b.plain)
	checkKept(b.t, b.tree, b.plain)
}

// unchanged holds that a tree of keys has all that it had, on the same pages.
func unchanged(t *testing.T, u *cowtree.Tree) func() {
	t.Helper()
	root := u.Root()
	was, _ := u.Scan("", "")
	return func() {
		t.Helper()
		if is, err := u.Scan("", ""); err != api.OK || u.Err() != api.OK || u.Root() != root || !slices.Equal(is, was) {
			t.Error("something was changed", err, u.Err())
		}
	}
}
