package adj

import (
	"cmp"
	"slices"
	"testing"

	"rootstock/alloc"
	"rootstock/api"
	"rootstock/cowtree"
	"rootstock/disk"
	"rootstock/pagefile"
)

const greatest = 1048575

// newFile is a file on a disk of its own.
func newFile(sectors int) *pagefile.File {
	return pagefile.New(disk.New(sectors))
}

// newTree is a tree without keys on a disk of its own.
func newTree(sectors int) *cowtree.Tree {
	return cowtree.New(alloc.New(newFile(sectors), nil, 2), 0)
}

// plain is edges by the chapter's words: a list of them, each with its lesser vertex ahead, and its mark.
type plain struct{ edges []markedEdge }

type markedEdge struct {
	u, v int
	tree bool
}

// wrong is what edge.Make tells of two vertices.
func wrong(u, v int) api.Errno {
	switch {
	case u < 0 || u > greatest || v < 0 || v > greatest:
		return api.ErrVertex
	case u == v:
		return api.ErrLoop
	}
	return api.OK
}

func (p *plain) find(u, v int) int {
	return slices.IndexFunc(p.edges, func(e markedEdge) bool { return e.u == min(u, v) && e.v == max(u, v) })
}

func (p *plain) set(u, v int, tree bool) api.Errno {
	if err := wrong(u, v); err != api.OK {
		return err
	}
	if i := p.find(u, v); i >= 0 {
		p.edges[i].tree = tree
		return api.OK
	}
	p.edges = append(p.edges, markedEdge{min(u, v), max(u, v), tree})
	return api.OK
}

func (p *plain) clear(u, v int) api.Errno {
	if err := wrong(u, v); err != api.OK {
		return err
	}
	i := p.find(u, v)
	if i < 0 {
		return api.ErrAbsent
	}
	p.edges = slices.Delete(p.edges, i, i+1)
	return api.OK
}

func (p *plain) get(u, v int) (tree, there bool, err api.Errno) {
	if err := wrong(u, v); err != api.OK {
		return false, false, err
	}
	i := p.find(u, v)
	return i >= 0 && p.edges[i].tree, i >= 0, api.OK
}

func (p *plain) near(u int) []Near {
	var l []Near
	for _, e := range p.edges {
		switch u {
		case e.u:
			l = append(l, Near{e.v, e.tree})
		case e.v:
			l = append(l, Near{e.u, e.tree})
		}
	}
	slices.SortFunc(l, func(a, b Near) int { return cmp.Compare(a.V, b.V) })
	return l
}

func (p *plain) pick(u int, without []int) (int, bool) {
	for _, n := range p.near(u) {
		if !n.Tree && !slices.Contains(without, n.V) {
			return n.V, true
		}
	}
	return 0, false
}

func (p *plain) pairs() []api.Pair {
	var l []api.Pair
	for _, e := range p.edges {
		l = append(l, api.Pair{U: e.u, V: e.v})
	}
	slices.SortFunc(l, func(a, b api.Pair) int { return cmp.Or(cmp.Compare(a.U, b.U), cmp.Compare(a.V, b.V)) })
	return l
}

// keyOf is the key of an edge, one way, byte by byte.
func keyOf(u, v int) string {
	return string([]byte{'A', byte(u >> 24), byte(u >> 16), byte(u >> 8), byte(u), byte(v >> 24), byte(v >> 16), byte(v >> 8), byte(v)})
}

// checkAsked asks of some vertices all that may be asked, and of all edges.
func checkAsked(t *testing.T, a *Adj, p *plain, vertices ...int) {
	t.Helper()
	if l, err := a.Edges(); err != api.OK || !slices.Equal(l, p.pairs()) {
		t.Fatal(l, err, p.pairs())
	}
	for _, u := range vertices {
		near := p.near(u)
		if l, err := a.Near(u); err != api.OK || !slices.Equal(l, near) {
			t.Fatal(u, l, err, near)
		}
		var without []int
		for i := 0; i <= len(near); i++ {
			want, found := p.pick(u, without)
			if v, ok, err := a.Pick(u, without); v != want || ok != found || err != api.OK {
				t.Fatal(u, without, v, ok, err, want, found)
			}
			if i < len(near) {
				without = append(without, near[(i+u)%len(near)].V)
			}
		}
		for _, v := range vertices {
			isTree, is, want := p.get(u, v)
			if tree, there, err := a.Get(u, v); tree != isTree || there != is || err != want {
				t.Fatal(u, v, tree, there, err)
			}
		}
	}
}

// checkKept holds that a tree of keys has just the keys of the edges, with their values.
func checkKept(t *testing.T, u *cowtree.Tree, p *plain) {
	t.Helper()
	var want []api.Entry
	for _, e := range p.edges {
		value := "n"
		if e.tree {
			value = "t"
		}
		want = append(want, api.Entry{Key: keyOf(e.u, e.v), Value: value}, api.Entry{Key: keyOf(e.v, e.u), Value: value})
	}
	slices.SortFunc(want, func(a, b api.Entry) int { return cmp.Compare(a.Key, b.Key) })
	if l, err := u.Scan("A", "B"); err != api.OK || !slices.Equal(l, want) {
		t.Fatalf("%q, %v, not %q", l, err, want)
	}
}

// sets puts edges in, and into the plain ones. Every third one is not of the forest.
func sets(t *testing.T, a *Adj, p *plain, pairs ...[2]int) {
	t.Helper()
	for i, e := range pairs {
		tree := i%3 != 0
		if got, want := a.Set(e[0], e[1], tree), p.set(e[0], e[1], tree); got != want || got != api.OK {
			t.Fatal(e, got, want)
		}
	}
}

// web are edges of so many vertices, a few of each.
func web(n int) (l [][2]int) {
	for i := 1; i < n; i++ {
		l = append(l, [2]int{i, i / 2}, [2]int{i, (i*i + 3) % i}, [2]int{i / 3, i})
	}
	return slices.DeleteFunc(l, func(e [2]int) bool { return e[0] == e[1] })
}

func count(n int) (l []int) {
	for i := range n {
		l = append(l, i)
	}
	return l
}
