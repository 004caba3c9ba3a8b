package treediff

import (
	"fmt"
	"math/rand"
	"slices"
	"testing"

	"rootstock/alloc"
	"rootstock/api"
	"rootstock/node"
)

// sub is a whole tree that was made by hand: its page, its least key and its greatest one.
type sub struct {
	page        int
	first, last string
}

// pairs makes two whole trees, which have pages in common at any height, and are not as deep.
type pairs struct {
	t *testing.T
	r *rand.Rand
	x *alloc.Txn
}

func (p *pairs) put(n node.Node) int {
	p.t.Helper()
	id, full := p.x.Alloc()
	kind, body, err := node.Encode(n)
	if full != api.OK || err != api.OK {
		p.t.Fatal(n, full, err)
	}
	p.x.Put(id, kind, body)
	return id
}

func (p *pairs) leaf(keys []string, value string) sub {
	n := node.Node{Leaf: true}
	for _, key := range keys {
		n.Entries = append(n.Entries, api.Entry{Key: key, Value: value})
	}
	return sub{p.put(n), keys[0], keys[len(keys)-1]}
}

// over is an inner node of kids. The key between two is any that may be there.
func (p *pairs) over(kids []sub) sub {
	n := node.Node{}
	for i, kid := range kids {
		n.Kids = append(n.Kids, kid.page)
		if i > 0 {
			key := kid.first
			if p.r.Intn(2) == 0 {
				key = kids[i-1].last + "\x00"
			}
			n.Keys = append(n.Keys, key)
		}
	}
	return sub{p.put(n), kids[0].first, kids[len(kids)-1].last}
}

// leaves are those of two trees: some in both, some in one alone, with keys of their own, or of others of the same place.
func (p *pairs) leaves(count int) ([]sub, []sub) {
	var a, b []sub
	same := 1 + p.r.Intn(30)
	for i := range count {
		var keys []string
		for j := range 4 + p.r.Intn(8) {
			keys = append(keys, fmt.Sprintf("%04d%c", i, 'a'+j))
		}
		half := keys[:1+p.r.Intn(len(keys))]
		switch k := p.r.Intn(same + 4); {
		case k < same:
			both := p.leaf(keys, "same")
			a, b = append(a, both), append(b, both)
		case k == same:
			a = append(a, p.leaf(keys, "first"))
		case k == same+1:
			b = append(b, p.leaf(keys, "second"))
		case k == same+2:
			a, b = append(a, p.leaf(keys, "same")), append(b, p.leaf(half, "same"), p.leaf([]string{keys[len(keys)-1] + "x"}, ""))
		default:
			a, b = append(a, p.leaf(half, "first")), append(b, p.leaf(keys, "second"))
		}
	}
	return a, b
}

// cut takes some things off a list.
func (p *pairs) cut(l []sub, most int) ([]sub, []sub) {
	n := min(len(l), 1+p.r.Intn(most))
	return l[:n], l[n:]
}

// meeting is how many things stand ahead of the first one that two lists have in common.
func meeting(a, b []sub) (int, int) {
	for i, x := range a {
		if j := slices.Index(b, x); j >= 0 {
			return i, j
		}
	}
	return len(a), len(b)
}

// above are the inner nodes over two lists. Where both have the same kids they may have the same node, and where they have not, they may come together again, or not.
func (p *pairs) above(a, b []sub) ([]sub, []sub) {
	var outA, outB []sub
	apart := func(l, over []sub, most int) []sub {
		for len(l) > 0 {
			var kids []sub
			kids, l = p.cut(l, most)
			over = append(over, p.over(kids))
		}
		return over
	}
	together := p.r.Intn(5)
	for len(a) > 0 || len(b) > 0 {
		same := 0
		for same < min(len(a), len(b)) && a[same] == b[same] {
			same++
		}
		i, j := meeting(a, b)
		switch {
		case same > 0 && p.r.Intn(5) < together:
			kids, _ := p.cut(a[:same], 6)
			both := p.over(kids)
			outA, outB = append(outA, both), append(outB, both)
			a, b = a[len(kids):], b[len(kids):]
		case same == 0 && p.r.Intn(5) < together:
			outA, outB = apart(a[:i], outA, 6), apart(b[:j], outB, 6)
			a, b = a[i:], b[j:]
		default:
			kids, rest := p.cut(a, 6)
			if len(kids) > 0 {
				outA, a = append(outA, p.over(kids)), rest
			}
			kids, rest = p.cut(b, 6)
			if len(kids) > 0 {
				outB, b = append(outB, p.over(kids)), rest
			}
		}
	}
	return outA, outB
}

// roots are those of two trees of so many leaves. One of them may be ready at a height at which the other is not.
func (p *pairs) roots(count int) (int, int) {
	a, b := p.leaves(count)
	for len(a) > 1 && len(b) > 1 || len(a) > 0 && len(b) > 0 && p.r.Intn(4) == 0 {
		a, b = p.above(a, b)
	}
	return p.root(a), p.root(b)
}

func (p *pairs) root(l []sub) int {
	if len(l) == 0 {
		return 0
	}
	for len(l) > 1 {
		l, _ = p.above(l, nil)
	}
	return l[0].page
}

// TestPairs: whole trees of any shape, so that pages of both lie at unlike depths, and nodes begin at unlike kids.
func TestPairs(t *testing.T) {
	r := rand.New(rand.NewSource(5))
	for i := range 400 {
		f := newFile(2000)
		p := &pairs{t: t, r: r, x: alloc.New(f, nil, 2)}
		a, b := p.roots(1 + r.Intn(1+i/2))
		if p.x.Flush() != api.OK {
			t.Fatal("Flush")
		}
		x := alloc.New(f, nil, p.x.Pages())
		checkTrees(t, f, x, a, b, "0000b", fmt.Sprintf("%04d", i/8), fmt.Sprintf("%04dc", i/4), "9")
		checkTrees(t, f, x, b, a)
		if i < 80 {
			spoilEach(t, f, x, a, b, false)
		}
	}
}

// TestUnlikeBeginnings: all trees of a height are in both, or all but the first, but the nodes over them begin at unlike ones. So at each beginning one way down has a page on it that the other one comes to some levels later.
func TestUnlikeBeginnings(t *testing.T) {
	for height := range 8 {
		for _, more := range []int{0, 1, 3} {
			for _, first := range []string{"same", "other"} {
				f := newFile(4000)
				p := &pairs{t: t, r: rand.New(rand.NewSource(6)), x: alloc.New(f, nil, 2)}
				l := p.row(200, height)
				other := append([]sub{p.high(p.leaf([]string{"0000"}, first), height)}, l[1:]...)
				if first == "same" {
					other = l
				}
				a, b := p.groups(l, 2, 4), p.groups(other, 1, 4)
				for range more {
					b = p.groups(b, 1, 9)
				}
				rootA, rootB := p.root(a), p.root(b)
				p.x.Flush()
				x := alloc.New(f, nil, p.x.Pages())
				checkTrees(t, f, x, rootA, rootB)
				checkTrees(t, f, x, rootB, rootA)
				checkTrees(t, f, x, a[3].page, rootB)
			}
		}
	}
}

// row are trees of a height, of one key each.
func (p *pairs) row(count, height int) []sub {
	var l []sub
	for i := range count {
		l = append(l, p.high(p.leaf([]string{fmt.Sprintf("%04d", i)}, "same"), height))
	}
	return l
}

// high is a tree with so many nodes over it, of one kid each.
func (p *pairs) high(s sub, height int) sub {
	for range height {
		s = p.over([]sub{s})
	}
	return s
}

// groups are the nodes over a list: the first one has so many kids, others as many as size says.
func (p *pairs) groups(l []sub, first, size int) []sub {
	out := []sub{p.over(l[:first])}
	for l = l[first:]; len(l) > 0; l = l[min(size, len(l)):] {
		out = append(out, p.over(l[:min(size, len(l))]))
	}
	return out
}

// TestOneAheadOfEach: ahead of each tree that is in both, one tree has one more of the same height, with keys of its own.
func TestOneAheadOfEach(t *testing.T) {
	for height := range 6 {
		f := newFile(4000)
		p := &pairs{t: t, r: rand.New(rand.NewSource(7)), x: alloc.New(f, nil, 2)}
		var a, b []sub
		for i := range 150 {
			same := p.high(p.leaf([]string{fmt.Sprintf("%04db", i)}, "same"), height)
			more := p.high(p.leaf([]string{fmt.Sprintf("%04da", i)}, "more"), height)
			a, b = append(a, same), append(b, more, same)
		}
		rootA, rootB := p.root(a), p.root(b)
		p.x.Flush()
		x := alloc.New(f, nil, p.x.Pages())
		checkTrees(t, f, x, rootA, rootB)
		checkTrees(t, f, x, rootB, rootA)
	}
}
