package treediff

import (
	"slices"
	"strings"
	"testing"

	"rootstock/alloc"
	"rootstock/api"
	"rootstock/disk"
	"rootstock/node"
	"rootstock/pagefile"
)

// newFile is a file on a disk of its own.
func newFile(sectors int) *pagefile.File {
	return pagefile.New(disk.New(sectors))
}

// leafNode is a leaf of keys with values, and inner an inner node, of trees that are made by hand.
func leafNode(keys ...string) node.Node {
	n := node.Node{Leaf: true}
	for _, key := range keys {
		n.Entries = append(n.Entries, api.Entry{Key: key, Value: "v" + key})
	}
	return n
}

func inner(kids []int, keys ...string) node.Node {
	return node.Node{Kids: kids, Keys: keys}
}

// lay writes nodes to the pages from 2 on: a change in which all of them are in use.
func lay(t *testing.T, f *pagefile.File, nodes ...node.Node) *alloc.Txn {
	t.Helper()
	for i, n := range nodes {
		kind, body, err := node.Encode(n)
		if err != api.OK {
			t.Fatal(i, n, err)
		}
		if err := f.Write(i+2, kind, body); err != api.OK {
			t.Fatal(i, err)
		}
	}
	f.Sync()
	return alloc.New(f, nil, len(nodes)+2)
}

// look is a tree whose pages were read by the words of chapter 13: its entries, and how often each page comes.
func look(t *testing.T, x *alloc.Txn, root int) ([]api.Entry, map[int]int) {
	t.Helper()
	var l []api.Entry
	pages := map[int]int{}
	var below func(id int)
	below = func(id int) {
		pages[id]++
		kind := api.KindLeaf
		body, err := x.Get(id, kind)
		if err != api.OK {
			kind = api.KindInner
			body, err = x.Get(id, kind)
		}
		n, bad := node.Decode(kind, body)
		if err != api.OK || bad != api.OK {
			t.Fatal(id, err, bad)
		}
		l = append(l, n.Entries...)
		for _, kid := range n.Kids {
			below(kid)
		}
	}
	if root != 0 {
		below(root)
	}
	return l, pages
}

// alone are the pages that are in one of two trees alone.
func alone(a, b map[int]int) []int {
	var l []int
	for id := range a {
		if b[id] == 0 {
			l = append(l, id)
		}
	}
	for id := range b {
		if a[id] == 0 {
			l = append(l, id)
		}
	}
	slices.Sort(l)
	return l
}

// between are the deltas of keys from from on, below to.
func between(d []Delta, from, to string) []Delta {
	var out []Delta
	for _, x := range d {
		if x.Key >= from && (to == "" || x.Key < to) {
			out = append(out, x)
		}
	}
	return out
}

// checkTrees holds all that the chapter says of two trees against Diff and Between. How many pages are read is asked of a change in which all pages are on the disk.
func checkTrees(t *testing.T, f *pagefile.File, x *alloc.Txn, a, b int, bounds ...string) []Delta {
	t.Helper()
	la, pa := look(t, x, a)
	lb, pb := look(t, x, b)
	n := len(alone(pa, pb))
	before := f.Reads()
	d, err := Diff(x, a, b)
	reads := f.Reads() - before
	if want := plainLists(la, lb); err != api.OK || !slices.Equal(d, want) {
		t.Fatal("Diff", d, err, "but", want)
	}
	// The chapter's bound, each page twice; and ours, which is half of it.
	if reads > 2*(4*n+96) || reads > 2*(2*n+48) {
		t.Fatal("Diff reads", reads, "where", n, "pages are in one tree alone")
	}
	if a == b && reads != 0 {
		t.Fatal("a root with itself", reads)
	}
	if l := Apply(la, d); !slices.Equal(l, lb) {
		t.Fatal("Apply", l, "but", lb)
	}
	if back, err := Diff(x, b, a); err != api.OK || !slices.Equal(back, turned(d)) {
		t.Fatal("the other way", back, err, "but", turned(d))
	}
	for _, from := range append(bounds, "") {
		for _, to := range append(bounds, "") {
			if some, err := Between(x, a, b, from, to); err != api.OK || !slices.Equal(some, between(d, from, to)) {
				t.Fatalf("Between(%q, %q): %v %v but %v", from, to, some, err, between(d, from, to))
			}
		}
	}
	return d
}

// long is a key of 16 bytes.
func long(s string) string {
	return s + strings.Repeat("_", 16-len(s))
}
