package cowtree

import (
	"maps"
	"slices"
	"strings"
	"testing"

	"rootstock/alloc"
	"rootstock/api"
	"rootstock/disk"
	"rootstock/node"
	"rootstock/pagefile"
)

// newFile is a file on a disk of its own.
func newFile(sectors int) *pagefile.File {
	return pagefile.New(disk.New(sectors))
}

// leafNode is a leaf of keys with values, and inner an inner node, of trees that are made by hand.
func leafNode(keys ...string) node.Node {
	n := node.Node{Leaf: true}
	for _, key := range keys {
		n.Entries = append(n.Entries, api.Entry{Key: key, Value: "v" + key})
	}
	return n
}

func inner(kids []int, keys ...string) node.Node {
	return node.Node{Kids: kids, Keys: keys}
}

// lay writes nodes to the pages from 2 on, and syncs them: a change in which all of them are in use.
func lay(t *testing.T, f *pagefile.File, nodes ...node.Node) *alloc.Txn {
	t.Helper()
	for i, n := range nodes {
		kind, body, err := node.Encode(n)
		if err != api.OK {
			t.Fatal(i, n, err)
		}
		if err := f.Write(i+2, kind, body); err != api.OK {
			t.Fatal(i, err)
		}
	}
	f.Sync()
	return alloc.New(f, nil, len(nodes)+2)
}

// sectors is all that is on a file's disk.
func sectors(t *testing.T, f *pagefile.File) []string {
	t.Helper()
	var l []string
	for id := range f.Disk.Sectors() {
		s, err := f.Disk.Read(id)
		if err != api.OK {
			t.Fatal(id, err)
		}
		l = append(l, s)
	}
	return l
}

// nodeOf is the node of a page, by the chapter's words.
func nodeOf(t *testing.T, x *alloc.Txn, id int) node.Node {
	t.Helper()
	kind := api.KindLeaf
	body, err := x.Get(id, kind)
	if err != api.OK {
		kind = api.KindInner
		body, err = x.Get(id, kind)
	}
	n, bad := node.Decode(kind, body)
	if err != api.OK || bad != api.OK {
		t.Fatal(id, err, bad)
	}
	return n
}

// pagesOf are the pages of a tree, a parent ahead of its kids.
func pagesOf(t *testing.T, x *alloc.Txn, id, depth int) []Page {
	t.Helper()
	if id == 0 {
		return nil
	}
	l := []Page{{ID: id, Depth: depth, Node: nodeOf(t, x, id)}}
	for _, kid := range l[0].Node.Kids {
		l = append(l, pagesOf(t, x, kid, depth+1)...)
	}
	return l
}

// entriesOf are all entries of a tree's leaves.
func entriesOf(t *testing.T, x *alloc.Txn, root int) []api.Entry {
	t.Helper()
	return look(t, x, root).entries()
}

// shape is a tree whose pages were read by the chapter's words.
type shape struct {
	t     *testing.T
	x     *alloc.Txn
	root  int
	pages []Page
	nodes map[int]node.Node
}

func look(t *testing.T, x *alloc.Txn, root int) *shape {
	t.Helper()
	s := &shape{t: t, x: x, root: root, pages: pagesOf(t, x, root, 0), nodes: map[int]node.Node{}}
	for _, p := range s.pages {
		s.nodes[p.ID] = p.Node
	}
	return s
}

func (s *shape) entries() []api.Entry {
	var l []api.Entry
	for _, p := range s.pages {
		l = append(l, p.Node.Entries...)
	}
	return l
}

// whole tells where a tree is not whole.
func (s *shape) whole() {
	s.t.Helper()
	if len(s.nodes) != len(s.pages) {
		s.t.Fatal("a page comes twice", s.pages)
	}
	bottom := -1
	for _, p := range s.pages {
		if len(p.Node.Entries) == 0 && len(p.Node.Kids) == 0 || !node.Fits(p.Node) {
			s.t.Fatal("empty, or too much", p)
		}
		if p.Node.Leaf {
			if bottom >= 0 && bottom != p.Depth || p.Depth > 23 {
				s.t.Fatal("depth", p)
			}
			bottom = p.Depth
		}
	}
	if s.root != 0 {
		s.keys(s.root, "", "")
	}
}

// keys tells where a node has keys that its parent does not say: those from from on, below to.
func (s *shape) keys(id int, from, to string) {
	s.t.Helper()
	n := s.nodes[id]
	l := n.Keys
	for _, e := range n.Entries {
		l = append(l, e.Key)
	}
	for _, key := range l {
		if key < from || to != "" && key >= to {
			s.t.Fatal("key", key, "not between", from, to)
		}
	}
	for i, kid := range n.Kids {
		a, b := from, to
		if i > 0 {
			a = n.Keys[i-1]
		}
		if i < len(n.Keys) {
			b = n.Keys[i]
		}
		s.keys(kid, a, b)
	}
}

// kept tells where a tree is not kept as the chapter's paragraph says: a small kid that fits together with the one beside it, or a root with one kid alone.
func (s *shape) kept() {
	s.t.Helper()
	for _, p := range s.pages {
		n := p.Node
		if p.Depth == 0 && len(n.Kids) == 1 {
			s.t.Fatal("a root with one kid", p)
		}
		for i, kid := range n.Kids {
			if node.Size(s.nodes[kid]) >= 80 || len(n.Kids) == 1 {
				continue
			}
			first := i
			if i == len(n.Kids)-1 {
				first--
			}
			a, b := s.nodes[n.Kids[first]], s.nodes[n.Kids[first+1]]
			if a.Leaf == b.Leaf && node.Fits(node.Join(a, n.Keys[first], b)) {
				s.t.Fatal("kid", i, "of", p, "is small:", a, b)
			}
		}
	}
}

// fresh tells whether fresh pages are of use, if nobody else takes pages of the change.
func (s *shape) fresh() {
	s.t.Helper()
	var l []int
	for _, p := range s.pages {
		if s.x.Fresh(p.ID) {
			l = append(l, p.ID)
		}
	}
	slices.Sort(l)
	if !slices.Equal(l, s.x.Taken()) {
		s.t.Fatal("fresh pages", s.x.Taken(), "of use", l)
	}
}

// sorted are a map's entries, from from on, below to.
func sorted(m map[string]string, from, to string) []api.Entry {
	var l []api.Entry
	for _, key := range slices.Sorted(maps.Keys(m)) {
		if key >= from && (to == "" || key < to) {
			l = append(l, api.Entry{Key: key, Value: m[key]})
		}
	}
	return l
}

// samePages tells whether two lists of pages are the same.
func samePages(a, b []Page) bool {
	return slices.EqualFunc(a, b, func(p, q Page) bool {
		return p.ID == q.ID && p.Depth == q.Depth && p.Node.Leaf == q.Node.Leaf &&
			slices.Equal(p.Node.Entries, q.Node.Entries) && slices.Equal(p.Node.Kids, q.Node.Kids) && slices.Equal(p.Node.Keys, q.Node.Keys)
	})
}

// checkAnswers tells whether a tree answers as a map does, of its keys and some others.
func checkAnswers(t *testing.T, u *Tree, m map[string]string, others ...string) {
	t.Helper()
	all := sorted(m, "", "")
	if l, err := u.Scan("", ""); err != api.OK || !slices.Equal(l, all) {
		t.Fatal("Scan of all", l, err, "but", all)
	}
	for _, key := range append(others, slices.Collect(maps.Keys(m))...) {
		want, there := m[key]
		if v, ok, err := u.Get(key); v != want || ok != there || err != api.OK {
			t.Fatalf("Get(%q): %q %v %v", key, v, ok, err)
		}
		at, _ := slices.BinarySearchFunc(all, key, func(e api.Entry, key string) int { return strings.Compare(e.Key, key) })
		var first api.Entry
		if at < len(all) {
			first = all[at]
		}
		if e, ok, err := u.Next(key); e != first || ok != (at < len(all)) || err != api.OK {
			t.Fatalf("Next(%q): %v %v %v", key, e, ok, err)
		}
	}
}

// long is a key of 16 bytes.
func long(s string) string {
	return s + strings.Repeat("_", 16-len(s))
}
