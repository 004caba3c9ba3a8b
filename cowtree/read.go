package cowtree

import (
	"rootstock/api"
	"rootstock/entry"
	"rootstock/node"
)

// span is the keys from from on, below to; all of them, if to is empty.
type span struct {
	from, to string
}

// has tells whether a key that is not below from is of the span.
func (s span) has(key string) bool {
	return s.to == "" || key < s.to
}

// part is what the kid at a place has of a span. What a kid has beyond what its parent says is not to be found by its key, so it is not gone through either: so entries rise even where a page comes twice.
func (s span) part(n node.Node, place int) span {
	if place > 0 {
		s.from = max(s.from, n.Keys[place-1])
	}
	if place < len(n.Keys) && s.has(n.Keys[place]) {
		s.to = n.Keys[place]
	}
	return s
}

// read is the node of a page that lies so deep. The page 0, which no kid has, is a leaf without entries: so a tree without pages is read as others are.
func (t *Tree) read(id, depth int) (node.Node, api.Errno) {
	switch {
	case id == 0:
		return node.Node{Leaf: true}, api.OK
	case depth >= Deep:
		return node.Node{}, api.ErrCorrupt
	}
	kind := api.KindLeaf
	body, err := t.txn.Get(id, kind)
	if err == api.ErrCorrupt {
		kind = api.KindInner
		body, err = t.txn.Get(id, kind)
	}
	if err != api.OK {
		return node.Node{}, err
	}
	return node.Decode(kind, body)
}

// leaf hands on the entries of the leaf that has a key.
func (t *Tree) leaf(key string, use func([]api.Entry)) api.Errno {
	if t.err != api.OK {
		return t.err
	}
	n, err := t.read(t.root, 0)
	for depth := 1; err == api.OK && !n.Leaf; depth++ {
		n, err = t.read(n.Kids[node.Child(n, key)], depth)
	}
	if err == api.OK {
		use(n.Entries)
	}
	return err
}

// each hands on the entries of a span, rising, till it is enough.
func (t *Tree) each(s span, use func(api.Entry) bool) api.Errno {
	if t.err != api.OK {
		return t.err
	}
	_, err := t.eachBelow(t.root, 0, s, use)
	return err
}

// eachBelow does so for the tree at a page, and tells whether to go on.
func (t *Tree) eachBelow(id, depth int, s span, use func(api.Entry) bool) (bool, api.Errno) {
	n, err := t.read(id, depth)
	if err != api.OK {
		return false, err
	}
	first, _ := entry.Find(n.Entries, s.from)
	for _, e := range n.Entries[first:] {
		if !s.has(e.Key) {
			return true, api.OK
		}
		if !use(e) {
			return false, api.OK
		}
	}
	for place := node.Child(n, s.from); place < len(n.Kids); place++ {
		part := s.part(n, place)
		if !part.has(part.from) {
			return true, api.OK
		}
		more, err := t.eachBelow(n.Kids[place], depth+1, part, use)
		if err != api.OK || !more {
			return false, err
		}
	}
	return true, api.OK
}

// pages hands on each page of the tree, a parent ahead of its kids, where use says that these are to be gone through.
func (t *Tree) pages(use func(Page) bool) api.Errno {
	if t.err != api.OK || t.root == 0 {
		return t.err
	}
	return t.pagesBelow(t.root, 0, use)
}

// pagesBelow does so for the tree at a page.
func (t *Tree) pagesBelow(id, depth int, use func(Page) bool) api.Errno {
	n, err := t.read(id, depth)
	if err != api.OK {
		return err
	}
	if !use(Page{ID: id, Depth: depth, Node: n}) {
		return api.OK
	}
	for _, kid := range n.Kids {
		if err := t.pagesBelow(kid, depth+1, use); err != api.OK {
			return err
		}
	}
	return api.OK
}
