package forest

import (
	"cmp"
	"maps"
	"slices"
	"testing"

	"rootstock/alloc"
	"rootstock/api"
	"rootstock/cowtree"
	"rootstock/disk"
	"rootstock/pagefile"
)

const greatest = 1048575

// newFile is a file on a disk of its own.
func newFile(sectors int) *pagefile.File {
	return pagefile.New(disk.New(sectors))
}

// newTree is a tree without keys on a disk of its own.
func newTree(sectors int) *cowtree.Tree {
	return cowtree.New(alloc.New(newFile(sectors), nil, 2), 0)
}

// plain is a graph by the chapter's words: its edges, each with its lesser vertex ahead, and whether it is of the forest.
type plain map[api.Pair]bool

func pair(u, v int) api.Pair { return api.Pair{U: min(u, v), V: max(u, v)} }

// wrong is what edge.Make tells of two vertices.
func wrong(u, v int) api.Errno {
	switch {
	case u < 0 || u > greatest || v < 0 || v > greatest:
		return api.ErrVertex
	case u == v:
		return api.ErrLoop
	}
	return api.OK
}

// near are all that a vertex is joined with, rising: it goes from one to the next ones, by the edges of the forest alone, or by all.
func (p plain) near(v int, forest bool) []int {
	beside := map[int][]int{}
	for e, tree := range p {
		if tree || !forest {
			beside[e.U], beside[e.V] = append(beside[e.U], e.V), append(beside[e.V], e.U)
		}
	}
	seen := map[int]bool{v: true}
	todo := []int{v}
	for len(todo) > 0 {
		for _, y := range beside[todo[0]] {
			if !seen[y] {
				seen[y] = true
				todo = append(todo, y)
			}
		}
		todo = todo[1:]
	}
	return slices.Sorted(maps.Keys(seen))
}

func (p plain) add(u, v int) api.Errno {
	if err := wrong(u, v); err != api.OK {
		return err
	}
	if _, there := p[pair(u, v)]; there {
		return api.ErrThere
	}
	p[pair(u, v)] = !slices.Contains(p.near(u, true), v)
	return api.OK
}

func (p plain) remove(u, v int) api.Errno {
	if err := wrong(u, v); err != api.OK {
		return err
	}
	tree, there := p[pair(u, v)]
	if !there {
		return api.ErrAbsent
	}
	delete(p, pair(u, v))
	if !tree {
		return api.OK
	}
	part := p.near(u, true)
	if other := p.near(v, true); len(other) < len(part) {
		part = other
	}
	for _, x := range part {
		var out []int
		for e, tree := range p {
			if e.U != x && e.V != x || tree {
				continue
			}
			if y := e.U + e.V - x; !slices.Contains(part, y) {
				out = append(out, y)
			}
		}
		if len(out) > 0 {
			p[pair(x, slices.Min(out))] = true
			break
		}
	}
	return api.OK
}

// pairs are the edges, sorted: all, or those of the forest.
func (p plain) pairs(forest bool) []api.Pair {
	var l []api.Pair
	for e, tree := range p {
		if tree || !forest {
			l = append(l, e)
		}
	}
	slices.SortFunc(l, func(a, b api.Pair) int { return cmp.Or(cmp.Compare(a.U, b.U), cmp.Compare(a.V, b.V)) })
	return l
}

// checkAsked asks of some vertices all that may be asked, and of all edges.
func checkAsked(t *testing.T, f *Forest, p plain, vertices ...int) {
	t.Helper()
	if l, err := f.Edges(); err != api.OK || !slices.Equal(l, p.pairs(false)) {
		t.Fatal(l, err, p.pairs(false))
	}
	l, err := f.Spanning()
	if err != api.OK || !slices.Equal(l, p.pairs(true)) {
		t.Fatal(l, err, p.pairs(true))
	}
	for _, u := range vertices {
		near := p.near(u, false)
		if n, err := f.Size(u); n != len(near) || err != api.OK {
			t.Fatal(u, n, err, near)
		}
		if l, err := f.Members(u); !slices.Equal(l, near) || err != api.OK {
			t.Fatal(u, l, err, near)
		}
		for _, v := range vertices {
			if ok, err := f.Joined(u, v); ok != slices.Contains(near, v) || err != api.OK {
				t.Fatal(u, v, ok, err, near)
			}
			_, there := p[pair(u, v)]
			if ok, err := f.Has(u, v); ok != there || err != wrong(u, v) {
				t.Fatal(u, v, ok, err, there)
			}
		}
	}
	checkSpanning(t, p, l)
}

// checkSpanning holds edges that were told as those of the forest against the chapter's promise: without a round trip, and they join what all join. Sets of vertices are laid together, one edge after the other.
func checkSpanning(t *testing.T, p plain, l []api.Pair) {
	t.Helper()
	lay := func(l []api.Pair) (sets map[int]int, round bool) {
		sets = map[int]int{}
		of := func(v int) int {
			for sets[v] != 0 {
				v = sets[v] - 1
			}
			return v
		}
		for _, e := range l {
			a, b := of(e.U), of(e.V)
			if a == b {
				round = true
				continue
			}
			sets[max(a, b)] = min(a, b) + 1
		}
		least := map[int]int{}
		for v := range sets {
			least[v] = of(v)
		}
		return least, round
	}
	want, _ := lay(p.pairs(false))
	got, round := lay(l)
	if round || !maps.Equal(got, want) {
		t.Fatal(l, "spans", got, "with a round trip:", round, "not", want)
	}
}

func bytesOf(u, v int) string {
	return string([]byte{byte(u >> 24), byte(u >> 16), byte(u >> 8), byte(u), byte(v >> 24), byte(v >> 16), byte(v >> 8), byte(v)})
}

// checkKept holds that a tree of keys has just the keys of the edges, with their marks, and the tokens of the forest.
func checkKept(t *testing.T, u *cowtree.Tree, p plain) {
	t.Helper()
	want := map[string]string{}
	for e, tree := range p {
		value := "n"
		if tree {
			value = "t"
			for _, k := range [][2]int{{e.U, e.U}, {e.U, e.V}, {e.V, e.U}, {e.V, e.V}} {
				want["N"+bytesOf(k[0], k[1])] = "token"
			}
		}
		want["A"+bytesOf(e.U, e.V)], want["A"+bytesOf(e.V, e.U)] = value, value
	}
	l, err := u.Scan("", "")
	if err != api.OK {
		t.Fatal(err)
	}
	got := map[string]string{}
	for _, e := range l {
		if e.Key[0] == 'N' {
			e.Value = "token"
		}
		got[e.Key] = e.Value
	}
	if !maps.Equal(got, want) {
		t.Fatalf("%q, not %q", got, want)
	}
}

// adds puts edges into a graph, and into the plain one.
func adds(t *testing.T, f *Forest, p plain, pairs ...[2]int) {
	t.Helper()
	for _, e := range pairs {
		if got, want := f.Add(e[0], e[1]), p.add(e[0], e[1]); got != want || got != api.OK {
			t.Fatal(e, got, want)
		}
	}
}

// removes takes edges away.
func removes(t *testing.T, f *Forest, p plain, pairs ...[2]int) {
	t.Helper()
	for _, e := range pairs {
		if got, want := f.Remove(e[0], e[1]), p.remove(e[0], e[1]); got != want || got != api.OK {
			t.Fatal(e, got, want)
		}
	}
}

// path are the edges of a row of so many vertices; star those of one in the midst; web some of so many vertices, a few of each.
func path(n int) (l [][2]int) {
	for i := 1; i < n; i++ {
		l = append(l, [2]int{i - 1, i})
	}
	return l
}

func star(n int) (l [][2]int) {
	for i := 1; i < n; i++ {
		l = append(l, [2]int{i, 0})
	}
	return l
}

func web(n int) (l [][2]int) {
	for i := 1; i < n; i++ {
		for _, j := range []int{i / 2, (i*i + 3) % i, i / 3} {
			if !slices.Contains(l, [2]int{i, j}) {
				l = append(l, [2]int{i, j})
			}
		}
	}
	return l
}

func count(n int) (l []int) {
	for i := range n {
		l = append(l, i)
	}
	return l
}
