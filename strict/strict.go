// Package strict is how a tree of keys is read by who is about to change something in it: behind an error of the tree that must be done with, also where it was just asked. Layers 18 and 19 stand on it.
package strict

import (
	"sort"

	"rootstock/api"
	"rootstock/cowtree"
)

// Tree is a tree of keys that is done with behind each error of Get and Scan too.
type Tree struct {
	*cowtree.Tree
}

// Get is a key's value. To delete a key comes to the pages where it was asked for, and so to the same error.
func (t Tree) Get(key string) (string, bool, api.Errno) {
	value, there, err := t.Tree.Get(key)
	if err != api.OK {
		t.Delete(key)
	}
	return value, there, err
}

// Scan are the entries between two keys.
func (t Tree) Scan(from, to string) ([]api.Entry, api.Errno) {
	l, err := t.Tree.Scan(from, to)
	if err != api.OK {
		t.Delete(t.lost(from))
	}
	return l, err
}

// lost is the first key at which a tree errs that is scanned from a key on; it is found byte by byte.
func (t Tree) lost(from string) string {
	errs := func(below string) bool {
		_, err := t.Tree.Scan(from, below)
		return err != api.OK
	}
	key := ""
	for len(key) < api.MaxKey && !errs(key+"\x00") {
		next := sort.Search(256, func(b int) bool { return errs(key + string([]byte{byte(b)})) })
		key += string([]byte{byte(next - 1)})
	}
	return key
}
