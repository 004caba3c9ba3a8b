package seq

import (
	"math/rand"
	"slices"
	"testing"

	"rootstock/alloc"
	"rootstock/api"
	"rootstock/cowtree"
	"rootstock/pagefile"
)

// source is bytes that say what a script does; behind its end there are noughts.
type source struct{ bytes []byte }

func (s *source) next() int {
	if len(s.bytes) == 0 {
		return 0
	}
	b := s.bytes[0]
	s.bytes = s.bytes[1:]
	return int(b)
}

// token is one of some, and now and then none at all.
func (s *source) token() api.Token {
	switch n := s.next(); n {
	case 254:
		return api.Token{A: n, B: 1 << 20}
	case 255:
		return api.Token{A: -1, B: n}
	default:
		return tok(n % 120)
	}
}

// version is a root that was flushed, and the lists that it stands for.
type version struct {
	root  int
	lists [][]api.Token
}

// script is sequences that are changed, and the plain ones.
type script struct {
	t    *testing.T
	f    *pagefile.File
	x    *alloc.Txn
	tree *cowtree.Tree
	seq  *Seq
	plain
	old  []version
	most int
}

// begin is a new change of a root.
func (c *script) begin(v version, pages int) {
	c.x = alloc.New(c.f, nil, pages)
	c.tree = cowtree.New(c.x, v.root)
	c.seq = New(c.tree)
	c.lists = slices.Clone(v.lists)
}

// commit flushes the change, and goes on from one of the last roots.
func (c *script) commit(which int) {
	c.t.Helper()
	if err := c.x.Flush(); err != api.OK {
		c.t.Fatal(err)
	}
	c.old = append(c.old, version{c.tree.Root(), slices.Clone(c.lists)})
	c.begin(c.old[len(c.old)-1-which%min(len(c.old), 3)], c.x.Pages())
}

// hold holds what a call told against what the plain sequences say: an error has changed nothing.
func (c *script) hold(got, want api.Errno, root int) {
	c.t.Helper()
	if got != want || got != api.OK && root != c.tree.Root() {
		c.t.Fatal(got, want)
	}
}

func (c *script) step(s *source) {
	root := c.tree.Root()
	switch op := s.next(); op % 16 {
	case 0, 1, 2, 3:
		k := s.token()
		c.hold(c.seq.Make(k), c.make(k), root)
	case 4, 5:
		k := s.token()
		c.hold(c.seq.Remove(k), c.remove(k), root)
	case 6, 7, 8, 9, 10, 11:
		a, b := s.token(), s.token()
		c.hold(c.seq.Join(a, b), c.join(a, b), root)
	case 12:
		k := s.token()
		c.hold(c.seq.Split(k), c.split(k, 0), root)
	case 13:
		k := s.token()
		c.hold(c.seq.SplitAfter(k), c.split(k, 1), root)
	case 14:
		// All into one: so trees of unlike heights are joined.
		for _, l := range slices.Clone(c.lists) {
			a := s.token()
			c.hold(c.seq.Join(a, l[0]), c.join(a, l[0]), c.tree.Root())
		}
	case 15:
		checkKept(c.t, c.tree, c.lists)
		checkAsked(c.t, c.seq, c.lists, op)
		if op > 128 {
			c.commit(op / 16)
		}
	}
	for _, l := range c.lists {
		c.most = max(c.most, len(l))
	}
}

func runScript(t *testing.T, bytes []byte) *script {
	s := &source{bytes}
	c := &script{t: t, f: newFile(8000)}
	c.begin(version{}, 2)
	for len(s.bytes) > 0 {
		c.step(s)
	}
	c.commit(0)
	for _, v := range c.old {
		c.begin(v, c.x.Pages())
		checkKept(t, c.tree, c.lists)
		checkAsked(t, c.seq, c.lists, v.root)
	}
	return c
}

func TestScripts(t *testing.T) {
	r := rand.New(rand.NewSource(1))
	most := 0
	for range 20 {
		bytes := make([]byte, 1500)
		r.Read(bytes)
		most = max(most, runScript(t, bytes).most)
	}
	if most < 60 {
		t.Error("the scripts are too tame:", most)
	}
}

// TestTwice: the same calls take the same pages, with the same bytes.
func TestTwice(t *testing.T) {
	bytes := make([]byte, 1500)
	rand.New(rand.NewSource(2)).Read(bytes)
	a, b := runScript(t, bytes), runScript(t, bytes)
	for id := range a.f.Disk.Sectors() {
		s, _ := a.f.Disk.Read(id)
		if z, _ := b.f.Disk.Read(id); s != z {
			t.Fatal(id)
		}
	}
}

func FuzzScript(f *testing.F) {
	r := rand.New(rand.NewSource(3))
	for range 10 {
		bytes := make([]byte, 400)
		r.Read(bytes)
		f.Add(bytes)
	}
	f.Fuzz(func(t *testing.T, bytes []byte) {
		if len(bytes) > 1000 {
			return
		}
		runScript(t, bytes)
	})
}
