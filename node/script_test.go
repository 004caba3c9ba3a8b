package node

import (
	"cmp"
	"math"
	"math/rand"
	"slices"
	"strings"
	"testing"

	"rootstock/api"
)

// source is bytes that say what a script does; behind its end there are noughts.
type source struct{ bytes []byte }

func (s *source) next() int {
	if len(s.bytes) == 0 {
		return 0
	}
	b := s.bytes[0]
	s.bytes = s.bytes[1:]
	return int(b)
}

// text is one of few texts, so that they meet: short ones, and ones near the limits of keys and values.
func (s *source) text() string {
	switch n := s.next(); n % 8 {
	case 0:
		return []string{"a", "\x00", "\xff", "\x80", "", "A"}[n/8%6]
	case 1:
		return strings.Repeat("k", 13+n/8%5)
	case 2:
		return strings.Repeat("v", 37+n/8%5)
	default:
		return string([]byte{byte('a' + n/8%16), byte('a' + s.next()%16)})
	}
}

// number is a kid: mostly a page, sometimes one near the limits, or none at all.
func (s *source) number() int {
	switch n := s.next(); n % 32 {
	case 0:
		return []int{0, 1, 2, -1, most, most + 1, math.MinInt, math.MaxInt}[n/32]
	default:
		return 2 + n
	}
}

// place is a number from below 0 to beyond so many.
func (s *source) place(n int) int {
	switch p := s.next(); p {
	case 255:
		return math.MaxInt
	case 254:
		return math.MinInt
	default:
		return p%(n+3) - 1
	}
}

// node is any node, and mostly one that is right but for its texts and numbers.
func (s *source) node() Node {
	what := s.next()
	n := Node{Leaf: what%2 == 0}
	count := s.next() % 14
	if n.Leaf || what%32 == 1 {
		for range count {
			n.Entries = append(n.Entries, api.Entry{Key: s.text(), Value: s.text()})
		}
	}
	if !n.Leaf || what%32 == 2 {
		for range count {
			n.Kids = append(n.Kids, s.number())
			n.Keys = append(n.Keys, s.text())
		}
		if len(n.Keys) > 0 && what%32 != 3 {
			n.Keys = n.Keys[1:]
		}
	}
	if what%16 != 5 && what%16 != 6 {
		byKey := func(a, b api.Entry) int { return cmp.Compare(a.Key, b.Key) }
		slices.SortFunc(n.Entries, byKey)
		n.Entries = slices.CompactFunc(n.Entries, func(a, b api.Entry) bool { return a.Key == b.Key })
		slices.Sort(n.Keys)
		n.Keys = slices.Compact(n.Keys)
		if len(n.Keys) > 0 && what%16 != 7 {
			n.Kids = n.Kids[:min(len(n.Keys)+1, len(n.Kids))]
		}
	}
	return n
}

// holds holds a node against the chapter's words, and tells whether it was right.
func holds(t *testing.T, n Node, key string) bool {
	t.Helper()
	right := plainRight(n)
	if got := Right(n); got != right {
		t.Fatalf("Right(%+v) = %v", n, got)
	}
	want := 0
	for _, k := range n.Keys {
		if strings.Compare(k, key) <= 0 {
			want++
		}
	}
	if got := Child(n, key); got != want {
		t.Fatalf("Child(%+v, %q) = %d, want %d", n, key, got, want)
	}
	if !right {
		encodeErr(t, n, api.ErrArg)
		if a, k, b := Split(n); !same(a, n) || k != "" || !same(b, Node{}) || Fits(n) {
			t.Fatalf("Split(%+v) = %+v, %q, %+v, Fits %v", n, a, k, b, Fits(n))
		}
		return false
	}
	splitsBack(t, n)
	body := plainBody(n)
	if Size(n) != len(body) || Fits(n) != (len(body) <= 240) {
		t.Fatalf("%+v: Size %d, Fits %v, want %d", n, Size(n), Fits(n), len(body))
	}
	kind := api.KindInner
	if n.Leaf {
		kind = api.KindLeaf
	}
	if len(body) > 240 {
		encodeErr(t, n, api.ErrPageLong)
		decodeErr(t, kind, body)
	} else {
		encodes(t, n, kind, body)
		decodes(t, kind, body, n)
	}
	return true
}

// plainJoin is Join by the chapter's words.
func plainJoin(a Node, key string, b Node) Node {
	n := Node{Leaf: a.Leaf, Entries: slices.Concat(a.Entries, b.Entries), Kids: slices.Concat(a.Kids, b.Kids)}
	switch {
	case a.Leaf && b.Leaf:
		n.Keys = slices.Concat(a.Keys, b.Keys)
	case !a.Leaf && !b.Leaf:
		n.Keys = slices.Concat(a.Keys, []string{key}, b.Keys)
	default:
		return a
	}
	return n
}

// script makes nodes, splits, joins and swaps what there is, and goes on from old nodes, which stay as they were; it tells how many were right.
func script(t *testing.T, bytes []byte) int {
	s := &source{bytes}
	nodes := []Node{{}}
	var was []Node
	rights := 0
	for len(s.bytes) > 0 && len(nodes) < 200 {
		a, b := nodes[s.next()%len(nodes)], nodes[len(nodes)-1]
		if len(a.Entries)+len(a.Kids)+len(a.Keys) > 100 {
			a = Node{}
		}
		if len(b.Entries)+len(b.Kids)+len(b.Keys) > 100 {
			b = Node{}
		}
		var made Node
		switch s.next() % 8 {
		case 0:
			key := s.text()
			made = Join(a, key, b)
			if want := plainJoin(a, key, b); !same(made, want) {
				t.Fatalf("Join(%+v, %q, %+v) = %+v, want %+v", a, key, b, made, want)
			}
		case 1:
			_, _, made = Split(b)
		case 2:
			made, _, _ = Split(a)
		case 3, 4:
			from, to, kids, keys := s.place(len(b.Kids)), s.place(len(b.Kids)), a.Kids, a.Keys
			made = Swap(b, from, to, kids, keys)
			if want := plainSwap(b, from, to, kids, keys); !same(made, want) {
				t.Fatalf("Swap(%+v, %d, %d, %v, %q) = %+v, want %+v", b, from, to, kids, keys, made, want)
			}
		default:
			made = s.node()
		}
		if holds(t, made, s.text()) {
			rights++
		}
		nodes, was = append(nodes, made), append(was, plainCopy(made))
	}
	for i, n := range was {
		if !same(nodes[i+1], n) {
			t.Fatalf("node %d of the script has become %+v, want %+v", i, nodes[i+1], n)
		}
	}
	return rights
}

func plainCopy(n Node) Node {
	return Node{Leaf: n.Leaf, Entries: slices.Clone(n.Entries), Kids: slices.Clone(n.Kids), Keys: slices.Clone(n.Keys)}
}

func TestScripts(t *testing.T) {
	r := rand.New(rand.NewSource(1212))
	rights := 0
	for range 400 {
		bytes := make([]byte, r.Intn(1500))
		r.Read(bytes)
		rights += script(t, bytes)
	}
	if rights < 3000 {
		t.Errorf("just %d nodes of the scripts were right", rights)
	}
}

func FuzzScript(f *testing.F) {
	f.Add([]byte("a node, and another one, joined, split, and swapped"))
	f.Fuzz(func(t *testing.T, bytes []byte) { script(t, bytes) })
}

// roomy is the same list with room behind its end: what is put there is put into the caller's memory.
func roomy[T any](l []T, behind T) []T {
	all := slices.Concat(l, []T{behind, behind, behind})
	return all[:len(l)]
}

func roomyNode(n Node) Node {
	return Node{Leaf: n.Leaf, Entries: roomy(n.Entries, api.Entry{Key: "room", Value: "behind"}), Kids: roomy(n.Kids, -7), Keys: roomy(n.Keys, "room")}
}

// whole is a node with all that its lists' memory holds, up to their capacities.
func whole(n Node) Node {
	return Node{Leaf: n.Leaf, Entries: n.Entries[:cap(n.Entries)], Kids: n.Kids[:cap(n.Kids)], Keys: n.Keys[:cap(n.Keys)]}
}

// spoil changes all that a node's memory holds.
func spoil(n Node) {
	n = whole(n)
	for i := range n.Entries {
		n.Entries[i] = api.Entry{Key: "spoilt", Value: "spoilt"}
	}
	for i := range n.Kids {
		n.Kids[i] = -1
	}
	for i := range n.Keys {
		n.Keys[i] = "spoilt"
	}
}

// calls are all that take nodes, or lists of them, with the nodes that they answer.
func calls() map[string]func(a, b Node) []Node {
	out := map[string]func(a, b Node) []Node{
		"Join": func(a, b Node) []Node { return []Node{Join(a, "m", b)} },
		"Split": func(a, b Node) []Node {
			one, _, two := Split(a)
			return []Node{one, two}
		},
		"no node": func(a, b Node) []Node {
			Right(a)
			Size(a)
			Fits(a)
			Encode(a)
			Child(a, "m")
			return nil
		},
	}
	for name, at := range map[string][2]int{"0 1": {0, 1}, "1 2": {1, 2}, "0 2": {0, 2}, "1 3": {1, 3}, "0 0": {0, 0}, "-1 1": {-1, 1}, "0 9": {0, 9}} {
		out["Swap "+name] = func(a, b Node) []Node { return []Node{Swap(a, at[0], at[1], b.Kids, b.Keys)} }
		out["Swap none "+name] = func(a, b Node) []Node { return []Node{Swap(a, at[0], at[1], b.Kids[:0], b.Keys[:0])} }
	}
	return out
}

// No node that is handed in is changed, up to its lists' capacities; no answer hangs on one, nor on another answer.
func TestNothingIsShared(t *testing.T) {
	nodes := rightNodes()
	for _, n := range wrongNodes() {
		nodes = append(nodes, n)
	}
	for what, call := range calls() {
		for _, a := range nodes {
			for _, b := range nodes {
				sharesNothing(t, what, call, roomyNode(a), roomyNode(b))
			}
		}
	}
}

func sharesNothing(t *testing.T, what string, call func(a, b Node) []Node, a, b Node) {
	t.Helper()
	wasA, wasB := plainCopy(whole(a)), plainCopy(whole(b))
	got := call(a, b)
	if !same(whole(a), wasA) || !same(whole(b), wasB) {
		t.Fatalf("%s changed %+v or %+v", what, wasA, wasB)
	}
	var want []Node
	for _, n := range got {
		want = append(want, plainCopy(n))
	}
	for i, n := range got {
		spoil(n)
		for j := i + 1; j < len(got); j++ {
			if !same(got[j], want[j]) {
				t.Fatalf("%s of %+v: two answers share something", what, a)
			}
		}
	}
	if !same(whole(a), wasA) || !same(whole(b), wasB) {
		t.Fatalf("%s of %+v and %+v: what was handed in hangs on the answer", what, wasA, wasB)
	}
	got = call(a, b)
	spoil(a)
	spoil(b)
	for i, n := range got {
		if !same(n, want[i]) {
			t.Fatalf("%s of %+v and %+v hangs on what was handed in", what, wasA, wasB)
		}
	}
}

func TestDecodedNodesStandAlone(t *testing.T) {
	for _, n := range rightNodes() {
		if kind, body, err := Encode(n); err == api.OK {
			one, _ := Decode(kind, body)
			spoil(one)
			decodes(t, kind, body, n)
		}
	}
}

// A node may be put together from its own lists.
func TestANodeWithItself(t *testing.T) {
	n := inner([]int{5, 6, 7}, "c", "m")
	if got := Join(n, "x", n); !same(got, inner([]int{5, 6, 7, 5, 6, 7}, "c", "m", "x", "c", "m")) {
		t.Errorf("joined with itself: %+v", got)
	}
	if got := Swap(n, 1, 2, n.Kids, n.Keys); !same(got, inner([]int{5, 5, 6, 7, 7}, "c", "c", "m", "m")) {
		t.Errorf("itself in the place of a kid: %+v", got)
	}
	if !same(n, inner([]int{5, 6, 7}, "c", "m")) {
		t.Errorf("it has become %+v", n)
	}
}

// Nodes may be far greater than a page's.
func TestGreatNodes(t *testing.T) {
	n := inner([]int{2})
	l := Node{Leaf: true}
	for i := range 20000 {
		key := string([]byte{byte(i >> 8), byte(i), 'k'})
		n.Kids, n.Keys = append(n.Kids, 3+i), append(n.Keys, key)
		l.Entries = append(l.Entries, api.Entry{Key: key, Value: "v"})
	}
	for _, n := range []Node{n, l} {
		if !Right(n) || Fits(n) || !splitsBack(t, n) {
			t.Error("a great node is not right, fits, or is not split")
		}
		encodeErr(t, n, api.ErrPageLong)
	}
	if Size(n) != 4+8*20000 || Size(l) != 6*20000 {
		t.Errorf("Size %d, %d", Size(n), Size(l))
	}
	if got := Child(n, string([]byte{1, 0, 'k'})); got != 257 {
		t.Errorf("Child = %d", got)
	}
}
