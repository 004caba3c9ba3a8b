// Package grove is how a forest is kept by tours in a tree of keys, as shared/doc/16-tour.md tells: it asks them, and changes them by as many links and cuts as it takes, of which nothing is written till all are known. The layers tour and forest stand on it.
package grove

import (
	"slices"

	"rootstock/api"
	"rootstock/cowtree"
	"rootstock/draft"
	"rootstock/edge"
)

// Grove is the tours of a tree of keys, in one draft. Its calls are those of layer 16, each of which finds what those ahead of it have left. Behind an error that tells more than that an argument is wrong it must not be gone on with.
type Grove struct {
	draft *draft.Draft
}

// New is the forest of a tree of keys, of which nothing is written: it is for who just asks.
func New(t *cowtree.Tree) *Grove {
	return &Grove{draft: draft.New(t)}
}

// Do does to the forest of a tree of keys what a plan says. Where the plan tells an error, nothing is written: a value that is wrong may be met late, where just a change comes to it. But behind an error of the tree that is done with.
func Do(t *cowtree.Tree, plan func(g *Grove) api.Errno) api.Errno {
	return draft.Do(t, func(d *draft.Draft) api.Errno {
		return plan(&Grove{draft: d})
	})
}

// Link puts an edge in.
func (g *Grove) Link(u, v int) api.Errno {
	if _, err := edge.Make(u, v); err != api.OK {
		return err
	}
	joined, err := g.Joined(u, v)
	switch {
	case err != api.OK:
		return err
	case joined:
		return api.ErrArg
	}
	w := &work{draft: g.draft}
	w.link(u, v)
	return w.end()
}

// Cut takes an edge away.
func (g *Grove) Cut(u, v int) api.Errno {
	if _, err := edge.Make(u, v); err != api.OK {
		return err
	}
	there, err := g.Edge(u, v)
	switch {
	case err != api.OK:
		return err
	case !there:
		return api.ErrAbsent
	}
	w := &work{draft: g.draft}
	w.unlink(u, v)
	return w.end()
}

// Joined tells whether there is a way between two vertices.
func (g *Grove) Joined(u, v int) (bool, api.Errno) {
	same, err := g.draft.Same(stay(u), stay(v))
	if err == api.ErrAbsent {
		return u == v, api.OK
	}
	return same, err
}

// Edge tells whether there is an edge between two vertices.
func (g *Grove) Edge(u, v int) (bool, api.Errno) {
	there, err := g.draft.Has(way(u, v))
	return there && u != v, err
}

// Size is how many vertices one is joined with.
func (g *Grove) Size(v int) (int, api.Errno) {
	count, err := g.draft.Count(stay(v))
	switch {
	case err == api.ErrAbsent:
		return 1, api.OK
	case err != api.OK:
		return 0, err
	}
	size, ok := vertices(count)
	if !ok {
		return 0, api.ErrCorrupt
	}
	return size, api.OK
}

// Rep is the same vertex for all that are joined. It is told by the tour alone, and not by how that is kept.
func (g *Grove) Rep(v int) (int, api.Errno) {
	first, err := g.draft.At(stay(v), 0)
	if err == api.ErrAbsent {
		return v, api.OK
	}
	return first.A, err
}

// Members are all that a vertex is joined with.
func (g *Grove) Members(v int) ([]int, api.Errno) {
	l, err := g.Walk(v)
	switch {
	case err != api.OK:
		return nil, err
	case len(l) == 0:
		return []int{v}, api.OK
	}
	var members []int
	for _, k := range l {
		if k == stay(k.A) {
			members = append(members, k.A)
		}
	}
	slices.Sort(members)
	return members, api.OK
}

// Walk is the tour around a vertex's tree.
func (g *Grove) Walk(v int) ([]api.Token, api.Errno) {
	l, err := g.draft.List(stay(v))
	switch {
	case err == api.ErrAbsent || len(l) == 1:
		return nil, api.OK
	case err == api.OK && !isTour(l):
		return nil, api.ErrCorrupt
	}
	return l, err
}

// stay is the token of a vertex. It is none of a number that is no vertex, which the sequences tell ahead of all else; so is way.
func stay(v int) api.Token {
	return api.Token{A: v, B: v}
}

// way is the token of one way along an edge.
func way(u, v int) api.Token {
	return api.Token{A: u, B: v}
}

// vertices is how many vertices a tour of so many tokens has: each vertex has one token, and each edge, of which there is one less, has two.
func vertices(tokens int) (int, bool) {
	return (tokens + 2) / 3, tokens%3 == 1
}

// isTour tells whether tokens, each of which comes once, are the tour around a tree: it comes back along each way that it went, and the last way first.
func isTour(l []api.Token) bool {
	var went []api.Token
	stays := 0
	for i, k := range l {
		last := len(went) - 1
		switch {
		case k.B != l[(i+1)%len(l)].A:
			return false
		case k == stay(k.A):
			stays++
		case last >= 0 && went[last] == way(k.B, k.A):
			went = went[:last]
		default:
			went = append(went, k)
		}
	}
	size, ok := vertices(len(l))
	return ok && stays == size && len(went) == 0
}
