package treediff

import (
	"cmp"
	"slices"

	"rootstock/alloc"
	"rootstock/api"
	"rootstock/cowtree"
	"rootstock/node"
)

// content is what a page that was read holds, or what is wrong with it.
type content struct {
	node node.Node
	err  api.Errno
}

// walk goes through two trees, or lists, at once, and tells what is different in them.
//
// It reads few pages: in whole trees a page that is in both is read only where the other tree has a page just as high, which is in that tree alone, ahead of it. For each such page it is one at most: so those in one tree alone, as many others, and what findLead reads, are all that is read.
type walk struct {
	txn    *alloc.Txn
	known  map[int]content // pages that were read: none is read twice
	a, b   stack
	lead   int // how much deeper a page lies in a's tree than in b's
	deltas []Delta
}

// run goes through all of both stacks.
func (w *walk) run() ([]Delta, api.Errno) {
	for len(w.a) > 0 || len(w.b) > 0 {
		if err := w.step(); err != api.OK {
			return nil, err
		}
	}
	return w.deltas, api.OK
}

// step goes on in one stack, or, past what is in both, in both.
func (w *walk) step() api.Errno {
	x, more := w.a.top()
	y, moreOther := w.b.top()
	switch {
	case !moreOther:
		return w.goOnInA(x)
	case !more:
		return w.goOnInB(y)
	case x.isPage() && x.page == y.page:
		w.a, w.b = w.a.rest(), w.b.rest()
		return api.OK
	case x.ahead(y):
		return w.goOnInA(x)
	case y.ahead(x):
		return w.goOnInB(y)
	case !x.isPage() && !y.isPage():
		w.passKey(x, y)
		return api.OK
	case w.aIsFirst(x, y):
		return w.goOnInA(x)
	}
	return w.goOnInB(y)
}

// aIsFirst tells in which stack to go on, where the tops may have the same keys, and one of them at least is a page. A page that the other stack will come to is left for then; and the higher one of two is read first, as the lower one may be below it. Nothing hangs on which tree is the first one: so all is just the other way round, where both are changed.
func (w *walk) aIsFirst(x, y thing) bool {
	leaveX, leaveY := w.b.awaits(x), w.a.awaits(y)
	if leaveX != leaveY {
		return leaveY
	}
	if !x.isPage() || !y.isPage() {
		return x.isPage()
	}
	return cmp.Or(cmp.Compare(x.depth-w.lead, y.depth), cmp.Compare(x.from, y.from), cmp.Compare(x.page, y.page)) < 0
}

// goOnInA goes past the top of the first stack alone.
func (w *walk) goOnInA(x thing) api.Errno {
	if x.isPage() {
		return w.open(&w.a, x)
	}
	w.a = w.a.rest()
	w.deltas = append(w.deltas, Delta{Key: x.from, Old: x.value, Was: true})
	return api.OK
}

// goOnInB goes past the top of the second stack alone.
func (w *walk) goOnInB(y thing) api.Errno {
	if y.isPage() {
		return w.open(&w.b, y)
	}
	w.b = w.b.rest()
	w.deltas = append(w.deltas, Delta{Key: y.from, New: y.value, Is: true})
	return api.OK
}

// passKey goes past a key that is on top of both stacks.
func (w *walk) passKey(x, y thing) {
	w.a, w.b = w.a.rest(), w.b.rest()
	if x.value != y.value {
		w.deltas = append(w.deltas, Delta{Key: x.from, Old: x.value, New: y.value, Was: true, Is: true})
	}
}

// open puts what a stack's top has in its place.
func (w *walk) open(s *stack, x thing) api.Errno {
	n, err := w.read(x)
	if err == api.OK {
		*s = s.rest().with(x, n)
	}
	return err
}

// findLead is how much deeper a page lies in a's tree than in b's, if both are whole: that is told by the first page that the ways down to the first keys have in common, or else by their lengths. What goes wrong is told by who must read it.
func (w *walk) findLead() int {
	x, y := slices.Clone(w.a), slices.Clone(w.b)
	for more := len(x) > 0 && len(y) > 0; more; {
		inY, inX := y.place(x), x.place(y)
		switch {
		case inX >= 0 && inY >= 0:
			return len(x) - len(y)
		case inY >= 0:
			return len(x) - 1 - inY
		case inX >= 0:
			return inX - (len(y) - 1)
		}
		deeperX, deeperY := w.deepen(&x), w.deepen(&y)
		more = deeperX || deeperY
	}
	return len(x) - len(y)
}

// place is where on a way the page is to which another one has come; below 0, if it is not there.
func (s stack) place(other stack) int {
	last, _ := other.top()
	return slices.IndexFunc(s, func(x thing) bool { return x.page == last.page })
}

// deepen puts the first kid of a way's last page behind it, and tells whether there is one.
func (w *walk) deepen(s *stack) bool {
	last, _ := s.top()
	n, err := w.read(last)
	if err != api.OK {
		return false
	}
	first, more := stack(nil).with(last, n).top()
	if !more || !first.isPage() {
		return false
	}
	*s = append(*s, first)
	return true
}

// read is the node of a page.
func (w *walk) read(x thing) (node.Node, api.Errno) {
	if x.depth >= cowtree.Deep {
		return node.Node{}, api.ErrCorrupt
	}
	held, met := w.known[x.page]
	if !met {
		held = load(w.txn, x.page)
		w.known[x.page] = held
	}
	return held.node, held.err
}

// load is what a page holds.
func load(t *alloc.Txn, page int) content {
	kind := api.KindLeaf
	body, err := t.Get(page, kind)
	if err == api.ErrCorrupt {
		kind = api.KindInner
		body, err = t.Get(page, kind)
	}
	if err != api.OK {
		return content{err: err}
	}
	n, err := node.Decode(kind, body)
	return content{node: n, err: err}
}
