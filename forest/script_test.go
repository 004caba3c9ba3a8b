package forest

import (
	"maps"
	"math/rand"
	"testing"

	"rootstock/alloc"
	"rootstock/api"
	"rootstock/cowtree"
	"rootstock/pagefile"
)

// source is bytes that say what a script does; behind its end there are noughts.
type source struct{ bytes []byte }

func (s *source) next() int {
	if len(s.bytes) == 0 {
		return 0
	}
	b := s.bytes[0]
	s.bytes = s.bytes[1:]
	return int(b)
}

// vertex is one of some, and now and then none at all.
func (s *source) vertex() int {
	switch n := s.next(); n {
	case 253:
		return greatest
	case 254:
		return 1 << 20
	case 255:
		return -1
	default:
		return n % 30 * 34001
	}
}

// edge is one that there is, either way round; one of the forest, if it is to be.
func (s *source) edge(p plain, forest bool) (int, int) {
	l := p.pairs(forest)
	if len(l) == 0 {
		return s.vertex(), s.vertex()
	}
	n := s.next()
	e := l[n%len(l)]
	if n > 127 {
		return e.V, e.U
	}
	return e.U, e.V
}

// version is a root that was flushed, and the graph that it stands for.
type version struct {
	root int
	plain
}

// script is a graph that is changed, and the plain one.
type script struct {
	t      *testing.T
	f      *pagefile.File
	x      *alloc.Txn
	tree   *cowtree.Tree
	forest *Forest
	plain
	old  []version
	most int
	fell int // how often a tree fell apart, and was joined again
}

// begin is a new change of a root.
func (c *script) begin(v version, pages int) {
	c.x = alloc.New(c.f, nil, pages)
	c.tree = cowtree.New(c.x, v.root)
	c.forest = New(c.tree)
	c.plain = maps.Clone(v.plain)
}

// commit flushes the change, and goes on from one of the last roots.
func (c *script) commit(which int) {
	c.t.Helper()
	if err := c.x.Flush(); err != api.OK {
		c.t.Fatal(err)
	}
	c.old = append(c.old, version{c.tree.Root(), maps.Clone(c.plain)})
	c.begin(c.old[len(c.old)-1-which%min(len(c.old), 3)], c.x.Pages())
}

// hold holds what a call told against what the plain graph says: an error has changed nothing.
func (c *script) hold(got, want api.Errno, root int) {
	c.t.Helper()
	if got != want || got != api.OK && root != c.tree.Root() {
		c.t.Fatal(got, want)
	}
}

// take takes an edge away.
func (c *script) take(u, v, root int) {
	c.t.Helper()
	forest := len(c.pairs(true))
	tree := c.plain[pair(u, v)]
	c.hold(c.forest.Remove(u, v), c.remove(u, v), root)
	if tree && len(c.pairs(true)) == forest {
		c.fell++
	}
}

// some are a few of the vertices: others, when it is asked for others.
func some(which int) []int {
	l := []int{greatest}
	for n := range 6 {
		l = append(l, (which+n*7)%30*34001)
	}
	return l
}

func (c *script) step(s *source) {
	root := c.tree.Root()
	switch op := s.next(); op % 8 {
	case 0, 1, 2, 3:
		u, v := s.vertex(), s.vertex()
		c.hold(c.forest.Add(u, v), c.add(u, v), root)
	case 4:
		c.take(s.vertex(), s.vertex(), root)
	case 5, 6:
		u, v := s.edge(c.plain, op > 100)
		c.take(u, v, root)
	case 7:
		checkKept(c.t, c.tree, c.plain)
		if op > 128 {
			checkAsked(c.t, c.forest, c.plain, some(op)...)
		}
		if op > 192 {
			c.commit(op / 8)
		}
	}
	c.most = max(c.most, len(c.plain))
}

func runScript(t *testing.T, bytes []byte) *script {
	s := &source{bytes}
	c := &script{t: t, f: newFile(8000)}
	c.begin(version{plain: plain{}}, 2)
	for len(s.bytes) > 0 {
		c.step(s)
	}
	c.commit(0)
	for _, v := range c.old {
		c.begin(v, c.x.Pages())
		checkKept(t, c.tree, c.plain)
		checkAsked(t, c.forest, c.plain, some(v.root)...)
	}
	return c
}

func TestScripts(t *testing.T) {
	r := rand.New(rand.NewSource(1))
	most, fell := 0, 0
	for range 12 {
		bytes := make([]byte, 1200)
		r.Read(bytes)
		c := runScript(t, bytes)
		most, fell = max(most, c.most), fell+c.fell
	}
	if most < 40 || fell < 100 {
		t.Error("the scripts are too tame:", most, fell)
	}
}

// TestTwice: the same calls take the same pages, with the same bytes.
func TestTwice(t *testing.T) {
	bytes := make([]byte, 700)
	rand.New(rand.NewSource(2)).Read(bytes)
	a, b := runScript(t, bytes), runScript(t, bytes)
	for id := range a.x.Pages() {
		s, _ := a.f.Disk.Read(id)
		if z, _ := b.f.Disk.Read(id); s != z {
			t.Fatal(id)
		}
	}
}

func FuzzScript(f *testing.F) {
	r := rand.New(rand.NewSource(3))
	for range 10 {
		bytes := make([]byte, 300)
		r.Read(bytes)
		f.Add(bytes)
	}
	f.Fuzz(func(t *testing.T, bytes []byte) {
		if len(bytes) > 1000 {
			return
		}
		runScript(t, bytes)
	})
}
