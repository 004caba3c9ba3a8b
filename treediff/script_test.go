package treediff

import (
	"math/rand"
	"strings"
	"testing"

	"rootstock/alloc"
	"rootstock/api"
	"rootstock/cowtree"
	"rootstock/pagefile"
)

// source is bytes that say what a script does; behind its end there are noughts.
type source struct{ bytes []byte }

func (s *source) next() int {
	if len(s.bytes) == 0 {
		return 0
	}
	b := s.bytes[0]
	s.bytes = s.bytes[1:]
	return int(b)
}

// key is one of some hundreds: short ones and such of 16 bytes, so that nodes have few kids or many.
func (s *source) key() string {
	n, more := s.next(), s.next()
	k := string([]byte{byte('a' + n%16), byte('a' + more%32)})
	if n >= 128 {
		return long(k)
	}
	return k[:1+n/64%2] + strings.Repeat("\x00", more/32%3)
}

// script is a tree that is changed, and the roots that were flushed. No page is ever free again: so all of them stay.
type script struct {
	t    *testing.T
	f    *pagefile.File
	x    *alloc.Txn
	tree *cowtree.Tree
	old  []int
}

// begin is a new change of one of the old roots.
func (c *script) begin(root int) {
	pages := 2
	if c.x != nil {
		pages = c.x.Pages()
	}
	c.x = alloc.New(c.f, nil, pages)
	c.tree = cowtree.New(c.x, root)
}

// commit flushes the change, and goes on with another one, from any of the last roots.
func (c *script) commit(which int) {
	if c.tree.Err() == api.OK && c.x.Flush() == api.OK {
		c.old = append(c.old, c.tree.Root())
	}
	c.begin(c.old[len(c.old)-1-which%min(len(c.old), 3)])
}

func (c *script) step(s *source) {
	switch op := s.next(); op % 16 {
	case 0, 1, 2, 3, 4:
		c.tree.Put(s.key(), strings.Repeat("v", s.next()%41))
	case 5, 6, 7:
		c.tree.Delete(s.key())
	case 8:
		for range 1 + op/4 {
			c.tree.Put(s.key(), strings.Repeat("w", s.next()%41))
		}
	case 9, 10:
		// Keys one behind the other go.
		l, _ := c.tree.Scan(s.key(), "")
		for _, e := range l[:min(len(l), op/4)] {
			c.tree.Delete(e.Key)
		}
	case 11:
		l, _ := c.tree.Scan(s.key(), s.key())
		for _, e := range l {
			c.tree.Put(e.Key, strings.Repeat("x", op/8))
		}
	case 12, 13:
		// What is not flushed yet is held against an old root.
		if c.tree.Err() == api.OK {
			checkTrees(c.t, c.f, c.x, c.old[s.next()%len(c.old)], c.tree.Root(), s.key(), s.key())
		}
	case 14, 15:
		c.commit(op / 16)
	}
}

func runScript(t *testing.T, bytes []byte) *script {
	s := &source{bytes}
	c := &script{t: t, f: newFile(4000), old: []int{0}}
	c.begin(0)
	for len(s.bytes) > 0 {
		c.step(s)
	}
	c.commit(0)
	bounds := []string{s.key(), "c", long("ha"), "i\x00"}
	last := c.old[max(0, len(c.old)-8):]
	for _, a := range last {
		for _, b := range last {
			checkTrees(t, c.f, c.x, a, b, bounds...)
		}
	}
	return c
}

func TestScripts(t *testing.T) {
	r := rand.New(rand.NewSource(1))
	most := 0
	for range 25 {
		bytes := make([]byte, 2000)
		r.Read(bytes)
		c := runScript(t, bytes)
		for _, root := range c.old {
			_, pages := look(t, c.x, root)
			most = max(most, len(pages))
		}
	}
	if most < 40 {
		t.Error("the scripts are too tame:", most)
	}
}

// TestScriptsSpoilt: of the trees of a script too a page that is spoilt is told, or nothing of it is seen.
func TestScriptsSpoilt(t *testing.T) {
	r := rand.New(rand.NewSource(2))
	for range 10 {
		bytes := make([]byte, 600)
		r.Read(bytes)
		c := runScript(t, bytes)
		for range 4 {
			spoilEach(t, c.f, c.x, c.old[r.Intn(len(c.old))], c.old[r.Intn(len(c.old))], false)
		}
	}
}

func FuzzScript(f *testing.F) {
	r := rand.New(rand.NewSource(3))
	for range 10 {
		bytes := make([]byte, 400)
		r.Read(bytes)
		f.Add(bytes)
	}
	f.Fuzz(func(t *testing.T, bytes []byte) {
		if len(bytes) > 1000 {
			return
		}
		runScript(t, bytes)
	})
}
