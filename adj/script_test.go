package adj

import (
	"math/rand"
	"slices"
	"testing"

	"rootstock/alloc"
	"rootstock/api"
	"rootstock/cowtree"
	"rootstock/pagefile"
)

// source is bytes that say what a script does; behind its end there are noughts.
type source struct{ bytes []byte }

func (s *source) next() int {
	if len(s.bytes) == 0 {
		return 0
	}
	b := s.bytes[0]
	s.bytes = s.bytes[1:]
	return int(b)
}

// vertex is one of some, and now and then none at all.
func (s *source) vertex() int {
	switch n := s.next(); n {
	case 253:
		return greatest
	case 254:
		return 1 << 20
	case 255:
		return -1
	default:
		return n % 30 * 34001
	}
}

// version is a root that was flushed, and the edges that it stands for.
type version struct {
	root  int
	edges []markedEdge
}

// script is edges that are changed, and the plain ones.
type script struct {
	t    *testing.T
	f    *pagefile.File
	x    *alloc.Txn
	tree *cowtree.Tree
	adj  *Adj
	plain
	old  []version
	most int
}

// begin is a new change of a root.
func (c *script) begin(v version, pages int) {
	c.x = alloc.New(c.f, nil, pages)
	c.tree = cowtree.New(c.x, v.root)
	c.adj = New(c.tree)
	c.edges = slices.Clone(v.edges)
}

// commit flushes the change, and goes on from one of the last roots.
func (c *script) commit(which int) {
	c.t.Helper()
	if err := c.x.Flush(); err != api.OK {
		c.t.Fatal(err)
	}
	c.old = append(c.old, version{c.tree.Root(), slices.Clone(c.edges)})
	c.begin(c.old[len(c.old)-1-which%min(len(c.old), 3)], c.x.Pages())
}

// hold holds what a call told against what the plain edges say: an error has changed nothing.
func (c *script) hold(got, want api.Errno, root int) {
	c.t.Helper()
	if got != want || got != api.OK && root != c.tree.Root() {
		c.t.Fatal(got, want)
	}
}

// some are a few of the vertices: others, when it is asked for others.
func some(which int) []int {
	l := []int{greatest}
	for n := range 6 {
		l = append(l, (which+n*7)%30*34001)
	}
	return l
}

func (c *script) step(s *source) {
	root := c.tree.Root()
	switch op := s.next(); op % 8 {
	case 0, 1, 2, 3, 4:
		u, v, tree := s.vertex(), s.vertex(), op > 127
		c.hold(c.adj.Set(u, v, tree), c.set(u, v, tree), root)
	case 5:
		u, v := s.vertex(), s.vertex()
		c.hold(c.adj.Clear(u, v), c.clear(u, v), root)
	case 6:
		if len(c.edges) > 0 {
			e := c.edges[s.next()%len(c.edges)]
			c.hold(c.adj.Clear(e.v, e.u), c.clear(e.v, e.u), root)
		}
	case 7:
		checkKept(c.t, c.tree, &c.plain)
		checkAsked(c.t, c.adj, &c.plain, some(op)...)
		if op > 192 {
			c.commit(op / 8)
		}
	}
	c.most = max(c.most, len(c.edges))
}

func runScript(t *testing.T, bytes []byte) *script {
	s := &source{bytes}
	c := &script{t: t, f: newFile(8000)}
	c.begin(version{}, 2)
	for len(s.bytes) > 0 {
		c.step(s)
	}
	c.commit(0)
	for _, v := range c.old {
		c.begin(v, c.x.Pages())
		checkKept(t, c.tree, &c.plain)
		checkAsked(t, c.adj, &c.plain, some(v.root)...)
	}
	return c
}

func TestScripts(t *testing.T) {
	r := rand.New(rand.NewSource(1))
	most := 0
	for range 12 {
		bytes := make([]byte, 1500)
		r.Read(bytes)
		most = max(most, runScript(t, bytes).most)
	}
	if most < 60 {
		t.Error("the scripts are too tame:", most)
	}
}

// TestTwice: the same calls take the same pages, with the same bytes.
func TestTwice(t *testing.T) {
	bytes := make([]byte, 700)
	rand.New(rand.NewSource(2)).Read(bytes)
	a, b := runScript(t, bytes), runScript(t, bytes)
	for id := range a.x.Pages() {
		s, _ := a.f.Disk.Read(id)
		if z, _ := b.f.Disk.Read(id); s != z {
			t.Fatal(id)
		}
	}
}

func FuzzScript(f *testing.F) {
	r := rand.New(rand.NewSource(3))
	for range 10 {
		bytes := make([]byte, 300)
		r.Read(bytes)
		f.Add(bytes)
	}
	f.Fuzz(func(t *testing.T, bytes []byte) {
		if len(bytes) > 1000 {
			return
		}
		runScript(t, bytes)
	})
}
