package cowtree

import (
	"maps"
	"slices"

	"rootstock/api"
	"rootstock/node"
)

// small is the Size below which a kid is joined with the one beside it.
const small = 80

// above is the depth of what a root would be the kid of: so a root is split, and goes, as other kids do.
const above = -1

// draft is what a change of one key is about to do. Nothing is written, and no page dropped, till all of it is known: so a change that goes wrong leaves every page as it was.
type draft struct {
	tree   *Tree
	nodes  map[int]node.Node // what fresh pages are to hold
	taken  []int             // pages that were taken for it
	spare  []int             // fresh pages of no use any more
	bottom int               // how deep the leaf lies
}

// change does with the leaf that has a key what edit says.
func (t *Tree) change(key string, edit func([]api.Entry) []api.Entry) api.Errno {
	d := &draft{tree: t, nodes: make(map[int]node.Node)}
	root, err := d.root(key, edit)
	if err != api.OK {
		d.undo()
		t.err = err
		return err
	}
	d.write()
	t.root = root
	return api.OK
}

// root is the page of the root behind the change.
func (d *draft) root(key string, edit func([]api.Entry) []api.Entry) (int, api.Errno) {
	top, changed, err := d.changed(node.Node{Kids: []int{d.tree.root}}, above, key, edit)
	if err != api.OK || !changed {
		return d.tree.root, err
	}
	for len(top.Kids) > 1 {
		d.bottom++
		top, err = d.place(node.Node{Kids: []int{0}}, 0, above, node.Node{}, top)
		if err != api.OK {
			return 0, err
		}
	}
	if len(top.Kids) == 0 {
		return 0, api.OK
	}
	return d.lowest(top.Kids[0])
}

// lowest is the page that a root with one kid alone gives way to. A tree that has grown so much that it could not be read any more is refused here.
func (d *draft) lowest(id int) (int, api.Errno) {
	for depth := range Deep {
		n, err := d.read(id, depth)
		switch {
		case err != api.OK:
			return 0, err
		case len(n.Kids) == 1:
			d.drop(id)
			id = n.Kids[0]
		case d.bottom-depth >= Deep:
			return 0, api.ErrCorrupt
		default:
			return id, api.OK
		}
	}
	return 0, api.ErrCorrupt
}

// changed is a node, that lies so deep, with what edit makes of the leaf below it that has a key; and whether that is something else.
func (d *draft) changed(n node.Node, depth int, key string, edit func([]api.Entry) []api.Entry) (node.Node, bool, api.Errno) {
	if n.Leaf {
		d.bottom = depth
		l := edit(n.Entries)
		return node.Node{Leaf: true, Entries: l}, !slices.Equal(l, n.Entries), api.OK
	}
	i := node.Child(n, key)
	was, err := d.read(n.Kids[i], depth+1)
	if err != api.OK {
		return node.Node{}, false, err
	}
	is, changed, err := d.changed(was, depth+1, key, edit)
	if err != api.OK || !changed {
		return node.Node{}, false, err
	}
	n, err = d.place(n, i, depth, was, is)
	return n, true, err
}

// place is an inner node whose kid at a place was one node, and is another one now: as many kids as that needs, or none.
func (d *draft) place(n node.Node, i, depth int, was, is node.Node) (node.Node, api.Errno) {
	parts, keys, err := d.fitting(is, depth+1)
	if err != api.OK {
		return node.Node{}, err
	}
	page := n.Kids[i]
	if len(parts) == 0 {
		d.drop(page)
	}
	var kids []int
	for _, part := range parts {
		kid, err := d.put(page, part)
		if err != api.OK {
			return node.Node{}, err
		}
		kids = append(kids, kid)
		page = 0
	}
	n = node.Swap(n, i, i+1, kids, keys)
	// Those beside it may be joined with it now, but only if it has less than it had.
	if len(parts) == 1 && node.Size(is) >= node.Size(was) {
		return d.settle(n, depth, i, i+1)
	}
	return d.settle(n, depth, i-1, i+len(kids)+1)
}

// fitting are the parts of a node that fit, and the keys between them: none, if it is empty.
func (d *draft) fitting(n node.Node, depth int) ([]node.Node, []string, api.Errno) {
	if len(n.Entries) == 0 && len(n.Kids) == 0 {
		return nil, nil, api.OK
	}
	// A leaf that has keys which its parent does not say may be split by one that does not rise among the others.
	if !node.Right(n) {
		return nil, nil, api.ErrCorrupt
	}
	parts, keys := []node.Node{n}, []string{}
	for i := 0; i < len(parts); {
		if node.Fits(parts[i]) {
			i++
			continue
		}
		a, key, b := node.Split(parts[i])
		// The last kid of a had one behind it: now it is the one ahead that counts.
		a, err := d.settle(a, depth, len(a.Kids)-1, len(a.Kids))
		if err != api.OK {
			return nil, nil, err
		}
		parts = slices.Replace(parts, i, i+1, a, b)
		keys = slices.Insert(keys, i, key)
	}
	return parts, keys, api.OK
}

// settle is an inner node, that lies so deep, whose kids from place from to place to less 1, so far as they are there, are joined with those beside them where they are to be. What comes of two is asked again: it may still be small.
func (d *draft) settle(n node.Node, depth, from, to int) (node.Node, api.Errno) {
	for i := max(from, 0); i < min(to, len(n.Kids)); {
		// The last kid has none behind it.
		first := min(i, len(n.Kids)-2)
		with, joined, err := d.join(n, depth, i, first)
		switch {
		case err != api.OK:
			return node.Node{}, err
		case joined:
			n, i = with, first
		default:
			i++
		}
	}
	return n, api.OK
}

// join is an inner node whose kids at place first and behind it are one, if the kid at place i, which is one of both, is small, and what comes of it fits; and whether it is so.
func (d *draft) join(n node.Node, depth, i, first int) (node.Node, bool, api.Errno) {
	if first < 0 {
		return n, false, api.OK
	}
	kid, err := d.read(n.Kids[i], depth+1)
	if err != api.OK || node.Size(kid) >= small {
		return n, false, err
	}
	a, b, err := d.pair(n, depth, first)
	if err != api.OK {
		return n, false, err
	}
	both := node.Join(a, n.Keys[first], b)
	if a.Leaf != b.Leaf || !node.Fits(both) {
		return n, false, api.OK
	}
	// Where both meet, kids are beside one another that were not.
	both, err = d.settle(both, depth+1, len(a.Kids)-1, len(a.Kids)+1)
	if err != api.OK {
		return n, false, err
	}
	page, err := d.putInto(n.Kids[first], n.Kids[first+1], both)
	return node.Swap(n, first, first+2, []int{page}, nil), true, err
}

// pair are the kid at a place and the one behind it.
func (d *draft) pair(n node.Node, depth, first int) (node.Node, node.Node, api.Errno) {
	a, err := d.read(n.Kids[first], depth+1)
	if err != api.OK {
		return node.Node{}, node.Node{}, err
	}
	b, err := d.read(n.Kids[first+1], depth+1)
	return a, b, err
}

// read is the node of a page that lies so deep, as the draft has it. A fresh page that is its own kid is in the draft too: it is the depth that ends it.
func (d *draft) read(id, depth int) (node.Node, api.Errno) {
	if n, ok := d.nodes[id]; ok && depth < Deep {
		return n, api.OK
	}
	return d.tree.read(id, depth)
}

// putInto puts a node into one of two pages, if it can, and drops the other one.
func (d *draft) putInto(a, b int, n node.Node) (int, api.Errno) {
	if !d.mayWrite(a) {
		a, b = b, a
	}
	d.drop(b)
	return d.put(a, n)
}

// put puts a node into a page, or, if that may not be written, into another one: which one it is.
func (d *draft) put(id int, n node.Node) (int, api.Errno) {
	if !d.mayWrite(id) {
		var err api.Errno
		id, err = d.tree.txn.Alloc()
		if err != api.OK {
			return 0, err
		}
		d.taken = append(d.taken, id)
	}
	d.nodes[id] = n
	return id, api.OK
}

// drop notes that a page is of no use any more.
func (d *draft) drop(id int) {
	if d.mayWrite(id) {
		delete(d.nodes, id)
		d.spare = append(d.spare, id)
	}
}

// mayWrite tells whether a page is fresh, and of use.
func (d *draft) mayWrite(id int) bool {
	return d.tree.txn.Fresh(id) && !slices.Contains(d.spare, id)
}

// write does what the draft says.
func (d *draft) write() {
	for _, id := range d.spare {
		d.tree.txn.Drop(id)
	}
	for _, id := range slices.Sorted(maps.Keys(d.nodes)) {
		// Nodes that fit, on fresh pages: no error is left to be told.
		kind, body, _ := node.Encode(d.nodes[id])
		d.tree.txn.Put(id, kind, body)
	}
}

// undo gives back what was taken.
func (d *draft) undo() {
	for _, id := range d.taken {
		d.tree.txn.Drop(id)
	}
}
