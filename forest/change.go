package forest

import (
	"slices"
	"strings"

	"rootstock/adj"
	"rootstock/api"
	"rootstock/grove"
	"rootstock/strict"
)

// bridge is an edge, if it is there, that joins two trees.
type bridge struct {
	from, to int
	there    bool
}

// get is an edge's mark, and whether it is there, for who is about to change something: if the tree errs, it must be done with, and to clear the edge comes to the same error.
func (f *Forest) get(u, v int) (tree, there bool, err api.Errno) {
	tree, there, err = f.edges.Get(u, v)
	if err != api.OK {
		f.edges.Clear(u, v)
	}
	return tree, there, err
}

// spare tells what is wrong with an edge that is not of the forest: that must join its vertices, but not by the edge itself.
func spare(g *grove.Grove, u, v int) api.Errno {
	joined, err := g.Joined(u, v)
	if err != api.OK {
		return err
	}
	there, err := g.Edge(u, v)
	if err != api.OK {
		return err
	}
	back, err := g.Edge(v, u)
	if err == api.OK && (!joined || there || back) {
		return api.ErrCorrupt
	}
	return err
}

// cut takes an edge out of the forest, and puts one in that joins again what it joined, if there is one: which one that is.
func (f *Forest) cut(g *grove.Grove, u, v int) (bridge, api.Errno) {
	err := g.Cut(u, v)
	switch {
	case err == api.ErrAbsent:
		return bridge{}, api.ErrCorrupt
	case err != api.OK:
		return bridge{}, err
	}
	u, v, err = smaller(g, u, v)
	if err != api.OK {
		return bridge{}, err
	}
	b, err := f.bridge(g, u, v)
	if err != api.OK || !b.there {
		return bridge{}, err
	}
	if err := f.fits(g, b, v); err != api.OK {
		return bridge{}, err
	}
	return b, g.Link(b.from, b.to)
}

// smaller are two vertices, that of the smaller tree ahead; those of trees of one size stay as they are.
func smaller(g *grove.Grove, u, v int) (int, int, api.Errno) {
	sizeU, err := g.Size(u)
	if err != api.OK {
		return 0, 0, err
	}
	sizeV, err := g.Size(v)
	switch {
	case err != api.OK:
		return 0, 0, err
	case sizeV < sizeU:
		return v, u, api.OK
	}
	return u, v, api.OK
}

// bridge is the first edge that leads out of u's tree, other than that to v.
func (f *Forest) bridge(g *grove.Grove, u, v int) (bridge, api.Errno) {
	members, err := g.Members(u)
	if err != api.OK {
		return bridge{}, err
	}
	for _, x := range members {
		l, err := f.edges.Near(x)
		if err != api.OK {
			f.giveUp(x)
			return bridge{}, err
		}
		for _, n := range l {
			_, in := slices.BinarySearch(members, n.V)
			switch {
			case in || x == u && n.V == v:
			case n.Tree:
				return bridge{}, api.ErrCorrupt
			default:
				return bridge{from: x, to: n.V, there: true}, api.OK
			}
		}
	}
	return bridge{}, api.OK
}

// fits tells what is wrong with a bridge, that was found by one of its keys: it must lead to v's tree, as all edges that are not of the forest stay in one, and the other key must tell the same.
func (f *Forest) fits(g *grove.Grove, b bridge, v int) api.Errno {
	joined, err := g.Joined(b.to, v)
	if err != api.OK {
		return err
	}
	tree, there, err := f.get(b.from, b.to)
	if err == api.OK && (!joined || tree || !there) {
		return api.ErrCorrupt
	}
	return err
}

// giveUp sees to it that a tree which told an error where a vertex's keys were read is done with. Where it was the edges that were wrong, it stays as it is.
func (f *Forest) giveUp(x int) {
	begin := keysOf(x)
	strict.Tree{Tree: f.tree}.Scan(begin, begin+strings.Repeat("\xff", api.MaxKey))
}

// keysOf is what all keys of edges with that vertex ahead begin with.
func keysOf(x int) string {
	other := 0
	if x == other {
		other = 1
	}
	key := adj.Key(x, other)
	return key[:len(key)/2+1]
}
