package tour

import (
	"maps"
	"slices"
	"testing"

	"rootstock/alloc"
	"rootstock/api"
	"rootstock/cowtree"
	"rootstock/disk"
	"rootstock/pagefile"
)

const greatest = 1048575

// newFile is a file on a disk of its own.
func newFile(sectors int) *pagefile.File {
	return pagefile.New(disk.New(sectors))
}

// newTree is a tree without keys on a disk of its own.
func newTree(sectors int) *cowtree.Tree {
	return cowtree.New(alloc.New(newFile(sectors), nil, 2), 0)
}

// edges are what edges there are, each by both its vertices.
type edges map[int][]int

func (e edges) has(u, v int) bool { return slices.Contains(e[u], v) }

// near are all that a vertex is joined with, rising: it goes from one to the next ones.
func (e edges) near(v int) []int {
	seen := map[int]bool{v: true}
	todo := []int{v}
	for len(todo) > 0 {
		x := todo[0]
		todo = todo[1:]
		for _, y := range e[x] {
			if !seen[y] {
				seen[y] = true
				todo = append(todo, y)
			}
		}
	}
	return slices.Sorted(maps.Keys(seen))
}

func (e edges) copy() edges {
	c := edges{}
	for v, l := range e {
		c[v] = slices.Clone(l)
	}
	return c
}

// plain is a forest by the chapter's words: its edges, and lists for the tours.
type plain struct {
	edges
	tours [][]api.Token
}

func newPlain() *plain { return &plain{edges: edges{}} }

func (p *plain) copy() *plain {
	c := &plain{edges: p.edges.copy()}
	for _, l := range p.tours {
		c.tours = append(c.tours, slices.Clone(l))
	}
	return c
}

// wrong is what Link and Cut tell of two vertices ahead of all else.
func wrong(u, v int) api.Errno {
	switch {
	case u < 0 || u > greatest || v < 0 || v > greatest:
		return api.ErrVertex
	case u == v:
		return api.ErrLoop
	}
	return api.OK
}

// take takes the tour of a vertex out of the list of them, turned till the vertex is the first.
func (p *plain) take(v int) []api.Token {
	k := api.Token{A: v, B: v}
	for i, l := range p.tours {
		if j := slices.Index(l, k); j >= 0 {
			p.tours = slices.Delete(p.tours, i, i+1)
			return slices.Concat(l[j:], l[:j])
		}
	}
	return []api.Token{k}
}

func (p *plain) link(u, v int) api.Errno {
	if err := wrong(u, v); err != api.OK {
		return err
	}
	if slices.Contains(p.near(u), v) {
		return api.ErrArg
	}
	p.edges[u], p.edges[v] = append(p.edges[u], v), append(p.edges[v], u)
	first := p.take(u)
	p.tours = append(p.tours, slices.Concat(first, []api.Token{{A: u, B: v}}, p.take(v), []api.Token{{A: v, B: u}}))
	return api.OK
}

func (p *plain) cut(u, v int) api.Errno {
	if err := wrong(u, v); err != api.OK {
		return err
	}
	if !p.has(u, v) {
		return api.ErrAbsent
	}
	other := func(w int) func(int) bool { return func(x int) bool { return x == w } }
	p.edges[u], p.edges[v] = slices.DeleteFunc(p.edges[u], other(v)), slices.DeleteFunc(p.edges[v], other(u))
	for i, l := range p.tours {
		a, b := slices.Index(l, api.Token{A: u, B: v}), slices.Index(l, api.Token{A: v, B: u})
		if a < 0 {
			continue
		}
		a, b = min(a, b), max(a, b)
		p.tours = slices.Delete(p.tours, i, i+1)
		for _, part := range [][]api.Token{slices.Concat(l[:a], l[b+1:]), slices.Clone(l[a+1 : b])} {
			if len(part) > 1 {
				p.tours = append(p.tours, part)
			}
		}
		return api.OK
	}
	panic("no tour of an edge")
}

// walk is the tour around a vertex's tree.
func (p *plain) walk(v int) []api.Token {
	for _, l := range p.tours {
		if slices.Contains(l, api.Token{A: v, B: v}) {
			return l
		}
	}
	return nil
}

// checkTour holds what was told as a tour against the chapter's words: each token of a tree once, and side by side as they should be.
func checkTour(t *testing.T, e edges, v int, l []api.Token) {
	t.Helper()
	want := map[api.Token]bool{}
	for _, x := range e.near(v) {
		want[api.Token{A: x, B: x}] = true
		for _, y := range e[x] {
			want[api.Token{A: x, B: y}] = true
		}
	}
	if len(e[v]) == 0 {
		clear(want)
	}
	if len(l) != len(want) {
		t.Fatal(v, "has a tour of", l)
	}
	for i, k := range l {
		if !want[k] || k.B != l[(i+1)%len(l)].A {
			t.Fatal(v, k, "in the tour", l)
		}
		delete(want, k)
	}
}

// checkAsked asks of some vertices all that may be asked.
func checkAsked(t *testing.T, f *Tour, p *plain, vertices ...int) {
	t.Helper()
	reps := map[int]int{}
	for _, v := range vertices {
		near := p.near(v)
		if n, err := f.Size(v); n != len(near) || err != api.OK {
			t.Fatal(v, n, err, near)
		}
		if l, err := f.Members(v); !slices.Equal(l, near) || err != api.OK {
			t.Fatal(v, l, err, near)
		}
		r, err := f.Rep(v)
		if !slices.Contains(near, r) || err != api.OK {
			t.Fatal(v, r, err, near)
		}
		if was, ok := reps[near[0]]; ok && was != r {
			t.Fatal(v, r, was, near)
		}
		reps[near[0]] = r
		l, err := f.Walk(v)
		if err != api.OK || !slices.Equal(l, p.walk(v)) {
			t.Fatal(v, l, err, p.walk(v))
		}
		checkTour(t, p.edges, v, l)
		for _, w := range vertices {
			if ok, err := f.Joined(v, w); ok != slices.Contains(near, w) || err != api.OK {
				t.Fatal(v, w, ok, err, near)
			}
			if ok, err := f.Edge(v, w); ok != p.has(v, w) || err != api.OK {
				t.Fatal(v, w, ok, err, p.edges[v])
			}
		}
	}
}

func bytesOf(k api.Token) string {
	return string([]byte{byte(k.A >> 24), byte(k.A >> 16), byte(k.A >> 8), byte(k.A), byte(k.B >> 24), byte(k.B >> 16), byte(k.B >> 8), byte(k.B)})
}

// checkKept holds that a tree of keys has just the tokens of the tours: a vertex without edges has none.
func checkKept(t *testing.T, u *cowtree.Tree, p *plain) {
	t.Helper()
	var want []string
	for _, l := range p.tours {
		for _, k := range l {
			want = append(want, "N"+bytesOf(k))
		}
	}
	slices.Sort(want)
	l, err := u.Scan("N", "O")
	if err != api.OK {
		t.Fatal(err)
	}
	var got []string
	for _, e := range l {
		got = append(got, e.Key)
	}
	if !slices.Equal(got, want) {
		t.Fatalf("%x, not %x", got, want)
	}
}

// links puts edges into a forest, and into the plain one.
func links(t *testing.T, f *Tour, p *plain, pairs ...[2]int) {
	t.Helper()
	for _, e := range pairs {
		if got, want := f.Link(e[0], e[1]), p.link(e[0], e[1]); got != want || got != api.OK {
			t.Fatal(e, got, want)
		}
	}
}

// cuts takes edges away.
func cuts(t *testing.T, f *Tour, p *plain, pairs ...[2]int) {
	t.Helper()
	for _, e := range pairs {
		if got, want := f.Cut(e[0], e[1]), p.cut(e[0], e[1]); got != want || got != api.OK {
			t.Fatal(e, got, want)
		}
	}
}

// path are the edges of a row of so many vertices; star those of one in the midst; twigs those of a tree in which each vertex has three below it.
func path(n int) (l [][2]int) {
	for i := 1; i < n; i++ {
		l = append(l, [2]int{i - 1, i})
	}
	return l
}

func star(n int) (l [][2]int) {
	for i := 1; i < n; i++ {
		l = append(l, [2]int{i, 0})
	}
	return l
}

func twigs(n int) (l [][2]int) {
	for i := 1; i < n; i++ {
		l = append(l, [2]int{(i - 1) / 3, i})
	}
	return l
}

func count(n int) (l []int) {
	for i := range n {
		l = append(l, i)
	}
	return l
}
