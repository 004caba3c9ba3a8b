// Package draft is how sequences of tokens are kept in a tree of keys, as shared/doc/15-seq.md tells: it asks them, and changes them by as many steps as it takes, of which nothing is written till all are known. The layer seq and package grove stand on it.
package draft

import (
	"cmp"
	"maps"
	"slices"

	"rootstock/api"
	"rootstock/cowtree"
)

// Draft is what was read of a tree's sequences, and what is about to be written. Its calls are those of layer 15, each of which finds what those ahead of it have left. Behind an error that tells more than that an argument is wrong it may be changed in part: so it must not be gone on with.
type Draft struct {
	tree *cowtree.Tree
	was  map[api.Token]value // as the tree has it
	is   map[api.Token]value // as it is to be; the zero value: gone
	lost string              // the key at which the tree told an error; empty: none
}

// New is a draft for a tree, of which nothing is written: it is for who just asks.
func New(t *cowtree.Tree) *Draft {
	return &Draft{tree: t, was: make(map[api.Token]value), is: make(map[api.Token]value)}
}

// Do does to the sequences of a tree what a plan says. Where the plan tells an error, nothing is written; but behind an error of the tree that is done with.
func Do(t *cowtree.Tree, plan func(d *Draft) api.Errno) api.Errno {
	d := New(t)
	if err := plan(d); err != api.OK {
		d.giveUp()
		return err
	}
	return d.write()
}

// knot is a token with its value.
type knot struct {
	token api.Token
	value
}

// step is one of the way up: from a token to the one above it, that it hangs below on a side.
type step struct {
	from, to knot
	side     int
}

// find is the value of a token, and whether there is that token.
func (d *Draft) find(k api.Token) (value, bool, api.Errno) {
	if v, ok := d.is[k]; ok {
		return v, v.count > 0, api.OK
	}
	if v, ok := d.was[k]; ok {
		return v, true, api.OK
	}
	key := keyOf(k)
	text, there, err := d.tree.Get(key)
	if err != api.OK {
		d.lost = key
		return value{}, false, err
	}
	if !there {
		return value{}, false, api.OK
	}
	v, ok := decode(k, text)
	if !ok {
		return value{}, false, api.ErrCorrupt
	}
	d.was[k] = v
	return v, true, api.OK
}

// read is the value of a token that another one is tied to, so that it must be there; none has the zero value.
func (d *Draft) read(k api.Token) (value, api.Errno) {
	if k == none {
		return value{}, api.OK
	}
	v, there, err := d.find(k)
	if err == api.OK && !there {
		err = api.ErrCorrupt
	}
	return v, err
}

// need tells what is wrong with the tokens that a call is given: ahead of all else all of them must be tokens.
func (d *Draft) need(tokens ...api.Token) api.Errno {
	for _, k := range tokens {
		if !isToken(k) {
			return api.ErrVertex
		}
	}
	for _, k := range tokens {
		_, there, err := d.find(k)
		switch {
		case err != api.OK:
			return err
		case !there:
			return api.ErrAbsent
		}
	}
	return api.OK
}

// rootOf is the root of the tree of a token that a call is given.
func (d *Draft) rootOf(k api.Token) (knot, api.Errno) {
	if err := d.need(k); err != api.OK {
		return knot{}, err
	}
	return d.root(k)
}

// roots are those of two tokens that a call is given.
func (d *Draft) roots(a, b api.Token) (knot, knot, api.Errno) {
	if err := d.need(a, b); err != api.OK {
		return knot{}, knot{}, err
	}
	of, err := d.root(a)
	if err != api.OK {
		return knot{}, knot{}, err
	}
	with, err := d.root(b)
	return of, with, err
}

// root is the root of the tree of a token that there is.
func (d *Draft) root(k api.Token) (knot, api.Errno) {
	return d.up(k, func(step) api.Errno { return api.OK })
}

// up goes the way from a token up to the root, which it tells, and hands on each step of it, ahead of going on. Just the tokens on the way are read.
func (d *Draft) up(k api.Token, do func(step) api.Errno) (knot, api.Errno) {
	v, err := d.read(k)
	at := knot{k, v}
	// Each step comes to a greater height: so there are fewer than tallest.
	for range tallest {
		if err != api.OK {
			break
		}
		next := at.ties[above]
		if next == none {
			return at, api.OK
		}
		v, err = d.read(next)
		if err != api.OK {
			break
		}
		side, ok := v.sideOf(at.token, at.value)
		if !ok {
			break
		}
		to := knot{next, v}
		err = do(step{from: at, to: to, side: side})
		at = to
	}
	return knot{}, cmp.Or(err, api.ErrCorrupt)
}

// open is the family of a token that there is.
func (d *Draft) open(k api.Token) (family, api.Errno) {
	v, err := d.read(k)
	if err != api.OK {
		return family{}, err
	}
	f := family{above: v}
	for side := left; side <= right; side++ {
		f[side], err = d.read(v.ties[side])
		if err != api.OK {
			return family{}, err
		}
	}
	if !f.fits(k) {
		return family{}, api.ErrCorrupt
	}
	return f, api.OK
}

// down goes from a token down, to the sides that choose says, till it says above: which token that is.
func (d *Draft) down(k api.Token, choose func(family) int) (api.Token, api.Errno) {
	for range tallest {
		f, err := d.open(k)
		if err != api.OK {
			return api.Token{}, err
		}
		side := choose(f)
		if side == above {
			return k, api.OK
		}
		k = f[above].ties[side]
	}
	return api.Token{}, api.ErrCorrupt
}

// each tells the tokens of a tree, in order.
func (d *Draft) each(k api.Token, tell func(api.Token)) api.Errno {
	if k == none {
		return api.OK
	}
	f, err := d.open(k)
	if err != api.OK {
		return err
	}
	if err := d.each(f[above].ties[left], tell); err != api.OK {
		return err
	}
	tell(k)
	return d.each(f[above].ties[right], tell)
}

// write does what the draft says, by rising keys, so that the same pages are taken whenever the same is done.
func (d *Draft) write() api.Errno {
	for _, k := range slices.SortedFunc(maps.Keys(d.is), func(a, b api.Token) int {
		return cmp.Compare(keyOf(a), keyOf(b))
	}) {
		if d.was[k] == d.is[k] {
			continue
		}
		if err := d.put(k, d.is[k]); err != api.OK {
			return err
		}
	}
	return api.OK
}

// put writes the value of a token, or takes it away.
func (d *Draft) put(k api.Token, v value) api.Errno {
	if v.count > 0 {
		return d.tree.Put(keyOf(k), v.encode())
	}
	_, err := d.tree.Delete(keyOf(k))
	return err
}

// giveUp sees to it that a tree which told an error is done with, though it was just asked: a change of the same key comes to the same page, and so to the same error.
func (d *Draft) giveUp() {
	if d.lost != "" {
		d.tree.Delete(d.lost)
	}
}
