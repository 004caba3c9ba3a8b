package cowtree

import (
	"maps"
	"math/rand"
	"slices"
	"strings"
	"testing"

	"rootstock/alloc"
	"rootstock/api"
	"rootstock/node"
	"rootstock/pagefile"
)

// source is bytes that say what a script does; behind its end there are noughts.
type source struct{ bytes []byte }

func (s *source) next() int {
	if len(s.bytes) == 0 {
		return 0
	}
	b := s.bytes[0]
	s.bytes = s.bytes[1:]
	return int(b)
}

// key is one of some hundreds: short ones and such of 16 bytes, so that nodes have few kids or many.
func (s *source) key() string {
	n, more := s.next(), s.next()
	k := string([]byte{byte('a' + n%16), byte('a' + more%32)})
	if n >= 128 {
		return long(k)
	}
	return k[:1+n/64%2] + strings.Repeat("\x00", more/32%3)
}

// version is a root, and what it stands for.
type version struct {
	root int
	m    map[string]string
}

// script is a tree that is changed, its plain map, and the versions that were flushed.
type script struct {
	t    *testing.T
	f    *pagefile.File
	x    *alloc.Txn
	tree *Tree
	m    map[string]string
	old  []version
}

func (c *script) put(key, value string) {
	if err := c.tree.Put(key, value); err == api.OK {
		c.m[key] = value
	} else if err != api.ErrFull {
		c.t.Fatal("Put", err)
	} else {
		c.abort()
	}
}

func (c *script) remove(key string) {
	_, there := c.m[key]
	if was, err := c.tree.Delete(key); err == api.OK {
		if was != there {
			c.t.Fatal("Delete", key, was)
		}
		delete(c.m, key)
	} else if err != api.ErrFull || was {
		c.t.Fatal("Delete", err)
	} else {
		c.abort()
	}
}

// abort goes back to the last version, or, where there is no room for any more, to an older one that is all that is kept.
func (c *script) abort() {
	last := version{m: map[string]string{}}
	if len(c.old) > 0 {
		last = c.old[len(c.old)/2]
		c.old = []version{last}
	}
	c.begin(last)
}

// commit flushes the change, and begins another one with the same root.
func (c *script) commit() {
	if err := c.x.Flush(); err != api.OK {
		c.t.Fatal("Flush", err)
	}
	v := version{root: c.tree.Root(), m: maps.Clone(c.m)}
	c.old = append(c.old, v)
	c.begin(v)
}

// begin is a new change, in which all that no version needs is free.
func (c *script) begin(v version) {
	used := map[int]bool{}
	all := alloc.New(c.f, nil, c.f.Room())
	for _, w := range append(c.old, v) {
		for _, p := range pagesOf(c.t, all, w.root, 0) {
			used[p.ID] = true
		}
	}
	var free []api.Run
	for id := 2; id < c.f.Room(); id++ {
		if !used[id] {
			free = append(free, api.Run{From: id, To: id})
		}
	}
	c.x = alloc.New(c.f, free, c.f.Room())
	c.tree = New(c.x, v.root)
	c.m = maps.Clone(v.m)
}

// check holds all that the chapter says of trees against this one.
func (c *script) check() {
	c.t.Helper()
	now := look(c.t, c.x, c.tree.Root())
	now.whole()
	now.kept()
	now.fresh()
	if l := now.entries(); !slices.Equal(l, sorted(c.m, "", "")) {
		c.t.Fatal(l, "but", sorted(c.m, "", ""))
	}
}

func (c *script) checkAll(s *source) {
	c.t.Helper()
	c.check()
	if l, err := c.tree.Walk(); err != api.OK || !samePages(l, pagesOf(c.t, c.x, c.tree.Root(), 0)) {
		c.t.Fatal("Walk", l, err)
	}
	checkAnswers(c.t, c.tree, c.m, s.key(), s.key(), "", "\xff")
	for _, v := range c.old {
		checkAnswers(c.t, New(c.x, v.root), v.m)
	}
}

func (c *script) step(s *source) {
	switch op := s.next(); op % 16 {
	case 0, 1, 2, 3, 4:
		c.put(s.key(), strings.Repeat("v", s.next()%41))
	case 5, 6, 7, 8:
		c.remove(s.key())
	case 9:
		for range 1 + op/4 {
			c.put(s.key(), strings.Repeat("w", s.next()%41))
		}
	case 10:
		// Keys one behind the other go.
		l := sorted(c.m, s.key(), "")
		for _, e := range l[:min(len(l), op/4)] {
			c.remove(e.Key)
		}
	case 11:
		// So do all but each second, or third.
		for i, e := range sorted(c.m, s.key(), s.key()) {
			if i%(2+op/128) == 0 {
				c.remove(e.Key)
			}
		}
	case 12, 13:
		from, to := s.key(), s.key()
		if l, err := c.tree.Scan(from, to); err != api.OK || !slices.Equal(l, sorted(c.m, from, to)) {
			c.t.Fatal("Scan", l, err)
		}
	case 14:
		for _, e := range sorted(c.m, "", "") {
			c.put(e.Key, strings.Repeat("x", op/16*len(e.Value)/8%41))
		}
	case 15:
		c.commit()
	}
}

func runScript(t *testing.T, bytes []byte) *script {
	s := &source{bytes}
	c := &script{t: t, f: newFile(40 + s.next()*4)}
	c.begin(version{m: map[string]string{}})
	for len(s.bytes) > 0 {
		c.step(s)
		c.check()
	}
	c.checkAll(s)
	return c
}

func TestScripts(t *testing.T) {
	r := rand.New(rand.NewSource(1))
	deepest, full := 0, 0
	for range 60 {
		bytes := make([]byte, 900)
		r.Read(bytes)
		c := runScript(t, bytes)
		for _, p := range pagesOf(t, c.x, c.tree.Root(), 0) {
			deepest = max(deepest, p.Depth)
		}
		full = max(full, len(c.m))
	}
	if deepest < 2 || full < 100 {
		t.Error("the scripts are too tame:", deepest, full)
	}
}

// TestGreatTree: keys of 16 bytes, so that few fit into a node, and a tree of five levels.
func TestGreatTree(t *testing.T) {
	r := rand.New(rand.NewSource(2))
	c := &script{t: t, f: newFile(6000)}
	c.begin(version{m: map[string]string{}})
	key := func() string {
		n := r.Intn(4000)
		return long(string([]byte{byte('a' + n/400), byte('a' + n/20%20), byte('a' + n%20)}))
	}
	for i := range 5000 {
		c.put(key(), strings.Repeat("v", 30+r.Intn(11)))
		if i%500 == 0 {
			c.check()
		}
	}
	c.checkAll(&source{})
	depth := 0
	for _, p := range pagesOf(t, c.x, c.tree.Root(), 0) {
		depth = max(depth, p.Depth)
	}
	if depth < 3 {
		t.Error(depth)
	}
	c.commit()
	for i := range 10000 {
		if len(c.m) == 0 {
			break
		}
		c.remove(key())
		if i%7 == 0 {
			c.put(key(), strings.Repeat("v", r.Intn(41)))
		}
		if i%2000 == 0 || len(c.m) < 40 && i%10 == 0 {
			c.check()
		}
	}
	for _, e := range sorted(c.m, "", "") {
		c.remove(e.Key)
	}
	if c.tree.Root() != 0 || len(c.x.Taken()) != 0 {
		t.Error(c.tree.Root(), c.x.Taken())
	}
	v := c.old[0]
	checkAnswers(t, New(alloc.New(c.f, nil, c.f.Room()), v.root), v.m)
}

// TestWholeByHand: whole trees that are not kept as ours are, with nodes of one kid, small ones, and keys between them that no leaf has, stay whole.
func TestWholeByHand(t *testing.T) {
	r := rand.New(rand.NewSource(3))
	for range 300 {
		f := newFile(3000)
		h := &hand{r: r, x: alloc.New(f, nil, 2), t: t, m: map[string]string{}}
		root := h.tree(r.Intn(5), "", "zz")
		if h.x.Flush() != api.OK {
			t.Fatal("Flush")
		}
		x := alloc.New(f, nil, h.x.Pages())
		look(t, x, root).whole()
		old := maps.Clone(h.m)
		u := New(x, root)
		for range 60 {
			key := string([]byte{byte('a' + r.Intn(26)), byte('a' + r.Intn(26))})[:1+r.Intn(2)]
			if l := sorted(h.m, key, ""); len(l) > 0 && r.Intn(3) > 0 {
				key = l[0].Key
			}
			if r.Intn(3) == 0 {
				h.m[key] = strings.Repeat("n", r.Intn(41))
				if err := u.Put(key, h.m[key]); err != api.OK {
					t.Fatal(err)
				}
			} else {
				_, there := h.m[key]
				delete(h.m, key)
				if was, err := u.Delete(key); was != there || err != api.OK {
					t.Fatal(was, there, err)
				}
			}
			now := look(t, x, u.Root())
			now.whole()
			now.fresh()
			if l := now.entries(); !slices.Equal(l, sorted(h.m, "", "")) {
				t.Fatal(l)
			}
		}
		checkAnswers(t, New(x, root), old)
	}
}

// hand makes whole trees of any shape.
type hand struct {
	t *testing.T
	r *rand.Rand
	x *alloc.Txn
	m map[string]string
}

func (h *hand) put(n node.Node) int {
	id, _ := h.x.Alloc()
	kind, body, err := node.Encode(n)
	if err != api.OK {
		h.t.Fatal(n, err)
	}
	h.x.Put(id, kind, body)
	return id
}

// between are keys that rise, from from on, below to: as many as there may be, or fewer.
func (h *hand) between(count int, from, to string) []string {
	keys := map[string]bool{}
	for range count {
		if key := string([]byte{byte('a' + h.r.Intn(26)), byte('a' + h.r.Intn(26))}); key >= from && key < to {
			keys[key] = true
		}
	}
	return slices.Sorted(maps.Keys(keys))
}

// tree is a tree of so many levels of inner nodes with keys from from on, below to.
func (h *hand) tree(levels int, from, to string) int {
	if levels == 0 {
		n := node.Node{Leaf: true}
		for _, key := range append(h.between(1+h.r.Intn(30), from, to), max(from, "a")) {
			if value := strings.Repeat("h", h.r.Intn(41)); node.Size(n)+2+len(key)+len(value) <= 240 && (key != from || len(n.Entries) == 0) {
				n.Entries = append(n.Entries, api.Entry{Key: key, Value: value})
				h.m[key] = value
			}
		}
		slices.SortFunc(n.Entries, func(a, b api.Entry) int { return strings.Compare(a.Key, b.Key) })
		n.Entries = slices.CompactFunc(n.Entries, func(a, b api.Entry) bool { return a.Key == b.Key })
		for _, e := range n.Entries {
			h.m[e.Key] = e.Value
		}
		return h.put(n)
	}
	n := node.Node{}
	for _, key := range h.between(h.r.Intn(6), from, to) {
		if key > max(from, "a") {
			n.Keys = append(n.Keys, key)
		}
	}
	for i := range len(n.Keys) + 1 {
		a, b := from, to
		if i > 0 {
			a = n.Keys[i-1]
		}
		if i < len(n.Keys) {
			b = n.Keys[i]
		}
		n.Kids = append(n.Kids, h.tree(levels-1, a, b))
	}
	return h.put(n)
}

func FuzzScript(f *testing.F) {
	r := rand.New(rand.NewSource(4))
	for range 10 {
		bytes := make([]byte, 300)
		r.Read(bytes)
		f.Add(bytes)
	}
	f.Fuzz(func(t *testing.T, bytes []byte) {
		if len(bytes) > 1000 {
			return
		}
		runScript(t, bytes)
	})
}
