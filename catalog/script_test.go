package catalog

import (
	"math/rand"
	"testing"

	"rootstock/alloc"
	"rootstock/api"
	"rootstock/cowtree"
	"rootstock/pagefile"
)

// source is bytes that say what a script does; behind its end there are noughts.
type source struct{ bytes []byte }

func (s *source) next() int {
	if len(s.bytes) == 0 {
		return 0
	}
	b := s.bytes[0]
	s.bytes = s.bytes[1:]
	return int(b)
}

// id is one of some, and now and then none at all.
func (s *source) id() int {
	n := s.next()
	if n < 200 {
		return 1 + n%40*26214
	}
	return ids()[n%len(ids())]
}

// number is any that a version may have, and now and then another one.
func (s *source) number() int {
	switch n := s.next(); n {
	case 253:
		return most
	case 254:
		return most + 1
	case 255:
		return -1
	default:
		return n * n * 65537
	}
}

// name is one of some, and now and then none at all.
func (s *source) name() string {
	n := s.next()
	if n < 220 {
		return string([]byte{named[n%37], named[n*n%37], named[n/5%37]}[:1+n%3])
	}
	return names()[n%len(names())]
}

// version is a root that was flushed, and what it stands for.
type old struct {
	root int
	*plain
}

// script is a catalogue that is changed, and the plain one.
type script struct {
	*both
	f        *pagefile.File
	x        *alloc.Txn
	old      []old
	versions int // the most that there were
	branches int
}

// begin is a new change of a root.
func (c *script) begin(v old, pages int) {
	c.x = alloc.New(c.f, nil, pages)
	c.tree = cowtree.New(c.x, v.root)
	c.c = New(c.tree)
	c.plain = v.clone()
}

// commit flushes the change, and goes on from one of the last roots.
func (c *script) commit(which int) {
	c.t.Helper()
	if err := c.x.Flush(); err != api.OK {
		c.t.Fatal(err)
	}
	c.old = append(c.old, old{c.tree.Root(), c.clone()})
	c.begin(c.old[len(c.old)-1-which%min(len(c.old), 3)], c.x.Pages())
}

func (c *script) step(s *source) {
	switch op := s.next(); op % 8 {
	case 0, 1:
		c.put(api.Version{ID: s.id(), Parent: s.id(), Root: s.number(), Edges: s.number()})
	case 2:
		c.put(api.Version{ID: s.id(), Root: s.next()})
	case 3:
		c.drop(s.id())
	case 4, 5:
		c.make(s.name(), s.id())
	case 6:
		if op > 128 && len(c.plain.branches) > 0 {
			c.move(c.plain.branches[op%len(c.plain.branches)].Name, s.id())
			break
		}
		c.move(s.name(), s.id())
	case 7:
		if op < 100 {
			c.check()
		}
		if op > 192 {
			c.commit(op / 8)
		}
	}
	c.versions = max(c.versions, len(c.plain.versions))
	c.branches = max(c.branches, len(c.plain.branches))
}

func runScript(t *testing.T, bytes []byte) *script {
	s := &source{bytes}
	c := &script{both: &both{t: t}, f: newFile(8000)}
	c.begin(old{0, &plain{}}, 2)
	for len(s.bytes) > 0 {
		c.step(s)
	}
	c.check()
	c.commit(0)
	for _, v := range c.old {
		c.begin(v, c.x.Pages())
		c.check()
	}
	return c
}

func TestScripts(t *testing.T) {
	r := rand.New(rand.NewSource(1))
	versions, branches := 0, 0
	for range 12 {
		bytes := make([]byte, 3000)
		r.Read(bytes)
		c := runScript(t, bytes)
		versions, branches = max(versions, c.versions), max(branches, c.branches)
	}
	if versions < 30 || branches < 64 {
		t.Error("the scripts are too tame:", versions, branches)
	}
}

// TestTwice: the same calls take the same pages, with the same bytes.
func TestTwice(t *testing.T) {
	bytes := make([]byte, 1500)
	rand.New(rand.NewSource(2)).Read(bytes)
	a, b := runScript(t, bytes), runScript(t, bytes)
	for id := range a.x.Pages() {
		s, _ := a.f.Disk.Read(id)
		if z, _ := b.f.Disk.Read(id); s != z {
			t.Fatal(id)
		}
	}
}

func FuzzScript(f *testing.F) {
	r := rand.New(rand.NewSource(3))
	for range 10 {
		bytes := make([]byte, 400)
		r.Read(bytes)
		f.Add(bytes)
	}
	f.Fuzz(func(t *testing.T, bytes []byte) {
		if len(bytes) > 1500 {
			return
		}
		runScript(t, bytes)
	})
}
