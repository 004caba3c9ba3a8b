package node

import (
	"math"
	"slices"
	"strings"
	"testing"

	"rootstock/api"
)

const (
	least = 2
	most  = 4294967295
)

func inner(kids []int, keys ...string) Node { return Node{Kids: kids, Keys: keys} }

// leaf is a leaf by its keys and values: key, value, key, value ..
func leaf(s ...string) Node {
	n := Node{Leaf: true}
	for i := 0; i+1 < len(s); i += 2 {
		n.Entries = append(n.Entries, api.Entry{Key: s[i], Value: s[i+1]})
	}
	return n
}

// sized is a leaf with entries of such sizes (from 3 to 43), with keys that rise, each of one byte.
func sized(sizes ...int) Node {
	n := Node{Leaf: true}
	for i, size := range sizes {
		n.Entries = append(n.Entries, api.Entry{Key: letter(i), Value: strings.Repeat("v", size-3)})
	}
	return n
}

// keyed is an inner node whose keys have so many bytes, and rise.
func keyed(lengths ...int) Node {
	n := inner([]int{least})
	for i, length := range lengths {
		n.Kids = append(n.Kids, least+1+i)
		n.Keys = append(n.Keys, letter(i)+long(length-1))
	}
	return n
}

func letter(i int) string { return string([]byte{byte('A' + i)}) }

func long(n int) string { return strings.Repeat("k", n) }

func same(a, b Node) bool {
	return a.Leaf == b.Leaf && slices.Equal(a.Entries, b.Entries) && slices.Equal(a.Kids, b.Kids) && slices.Equal(a.Keys, b.Keys)
}

// fullLeaf and fullInner have a Size of 240, and so many more.
func fullLeaf(more int) Node { return sized(43, 43, 43, 43, 43, 25+more) }

func fullInner(more int) Node { return keyed(16, 16, 16, 16, 16, 16, 16, 16, 16, 16, 8, 8+more) }

// rightNodes are nodes that are right; some are too great for a page.
func rightNodes() []Node {
	return []Node{
		leaf(),
		{Leaf: true, Entries: []api.Entry{}, Kids: []int{}, Keys: []string{}},
		leaf("a", ""),
		leaf(long(16), long(40)),
		leaf("a", "1", "b", "2"),
		leaf("a", "", "ab", "22", "b", long(40), long(16), "x"),
		leaf("B", "", "a", "", "\xff", ""),
		leaf("\x00", "\x00", "\x00\x00", ""),
		fullLeaf(0),
		fullLeaf(1),
		sized(43, 43, 43, 43, 43, 43, 43, 43, 43),
		inner([]int{least}),
		inner([]int{most}),
		{Kids: []int{5}, Keys: []string{}, Entries: []api.Entry{}},
		inner([]int{5, 9}, "m"),
		inner([]int{5, 5}, "m"),
		inner([]int{most, least, 300}, "\x00", "\xff"),
		inner([]int{9, 8, 7, 6}, "a", "aa", "b"),
		inner([]int{5, 6, 7, 8, 9}, "B", "a", long(15), long(16)),
		fullInner(0),
		fullInner(1),
		keyed(16, 16, 16, 16, 16, 16, 16, 16, 16, 16, 16, 16, 16, 16, 16, 16),
	}
}

// wrongNodes are nodes that are not right, by what is wrong with them.
func wrongNodes() map[string]Node {
	one := []api.Entry{{Key: "a", Value: "1"}}
	return map[string]Node{
		"a leaf whose keys fall":           leaf("b", "", "a", ""),
		"a leaf with a key twice":          leaf("a", "1", "a", "1"),
		"a leaf with a key twice, far off": leaf("a", "1", "b", "2", "a", "1"),
		"a leaf with an empty key":         leaf("", "v"),
		"a leaf with an empty key behind":  leaf("a", "v", "", "v"),
		"a leaf with a long key":           leaf("a", "1", long(17), "2"),
		"a leaf with a long value":         leaf("a", "1", "b", long(41)),
		"a leaf as letters, not as bytes":  leaf("a", "", "B", ""),
		"a leaf of one that is too long":   leaf(long(300), long(300)),
		"a leaf with a kid":                {Leaf: true, Kids: []int{2}},
		"a leaf with a key":                {Leaf: true, Keys: []string{"a"}},
		"a leaf with entries and a kid":    {Leaf: true, Entries: one, Kids: []int{2}},
		"a leaf with entries and a key":    {Leaf: true, Entries: one, Keys: []string{"a"}},
		"a leaf with all":                  {Leaf: true, Entries: one, Kids: []int{5, 9}, Keys: []string{"m"}},
		"a leaf that is an inner node":     {Leaf: true, Kids: []int{5, 9}, Keys: []string{"m"}},
		"nothing":                          {},
		"no kid":                           inner([]int{}),
		"no kid, one key":                  inner(nil, "m"),
		"an inner node with entries":       {Entries: one, Kids: []int{5, 9}, Keys: []string{"m"}},
		"an inner node of entries":         {Entries: one},
		"a kid, an entry":                  {Entries: one, Kids: []int{5}},
		"as many keys as kids":             inner([]int{5}, "m"),
		"more keys than kids":              inner([]int{5}, "m", "n", "o"),
		"as many keys as two kids":         inner([]int{5, 9}, "m", "n"),
		"two kids, no key":                 inner([]int{5, 9}),
		"four kids, one key":               inner([]int{5, 6, 7, 8}, "m"),
		"kid 1":                            inner([]int{1}),
		"kid 0":                            inner([]int{0}),
		"kid -1":                           inner([]int{-1}),
		"the least number":                 inner([]int{math.MinInt}),
		"kid 4294967296":                   inner([]int{most + 1}),
		"4294967298, which is not 2":       inner([]int{most + 3}),
		"the greatest number":              inner([]int{math.MaxInt}),
		"kid 1 at the end":                 inner([]int{5, 6, 1}, "a", "b"),
		"kid 1 in the middle":              inner([]int{5, 1, 6}, "a", "b"),
		"kid 4294967296 at the end":        inner([]int{5, 6, most + 1}, "a", "b"),
		"an empty key":                     inner([]int{5, 6}, ""),
		"an empty key ahead":               inner([]int{5, 6, 7}, "", "a"),
		"an empty key behind":              inner([]int{5, 6, 7}, "a", ""),
		"a key of 17 bytes":                inner([]int{5, 6}, long(17)),
		"a key of 17 bytes at the end":     inner([]int{5, 6, 7}, "a", long(17)),
		"a key of 300 bytes":               inner([]int{5, 6}, long(300)),
		"a key of nine signs":              inner([]int{5, 6}, strings.Repeat("é", 9)),
		"keys that fall":                   inner([]int{5, 6, 7}, "b", "a"),
		"keys that fall at the end":        inner([]int{5, 6, 7, 8}, "a", "c", "b"),
		"a key twice":                      inner([]int{5, 6, 7}, "b", "b"),
		"a key twice, far off":             inner([]int{5, 6, 7, 8}, "a", "b", "a"),
		"as letters, not as bytes":         inner([]int{5, 6, 7}, "a", "B"),
		"as numbers, not as bytes":         inner([]int{5, 6, 7}, "9", "10"),
		"not right, and too long":          inner(fullInner(1).Kids, slices.Repeat([]string{long(16)}, 12)...),
		"a leaf, not right, and too long":  leaf(slices.Repeat([]string{"a", long(40)}, 9)...),
	}
}

func TestExamples(t *testing.T) {
	n := inner([]int{5, 9}, "m")
	if a, m := Child(n, "a"), Child(n, "m"); a != 0 || m != 1 {
		t.Errorf("Child(a) = %d, Child(m) = %d", a, m)
	}
	encodes(t, n, api.KindInner, "\x00\x00\x00\x05\x01m\x00\x00\x00\x09")
	if got := Swap(n, 0, 1, []int{6, 7}, []string{"c"}); !same(got, inner([]int{6, 7, 9}, "c", "m")) {
		t.Errorf("Swap = %+v", got)
	}
}

func TestRight(t *testing.T) {
	for _, n := range rightNodes() {
		if !Right(n) {
			t.Errorf("%+v is not right", n)
		}
	}
	for what, n := range wrongNodes() {
		if Right(n) {
			t.Errorf("%s: %+v is right", what, n)
		}
	}
}

func TestRightByKids(t *testing.T) {
	for _, c := range []struct {
		kid  int
		want bool
	}{
		{math.MinInt, false}, {-most, false}, {-2, false}, {-1, false}, {0, false}, {1, false},
		{2, true}, {3, true}, {65536, true}, {2147483648, true}, {most - 1, true}, {most, true},
		{most + 1, false}, {most + 2, false}, {most + 3, false}, {math.MaxInt, false},
	} {
		for place := range 3 {
			n := inner([]int{7, 8, 9}, "a", "b")
			n.Kids[place] = c.kid
			if Right(n) != c.want {
				t.Errorf("kid %d at place %d: %v", c.kid, place, !c.want)
			}
		}
	}
}

func TestRightByKeys(t *testing.T) {
	for length := range 40 {
		want := length >= 1 && length <= 16
		if got := Right(inner([]int{5, 6}, long(length))); got != want {
			t.Errorf("a key of %d bytes: %v", length, got)
		}
		if got := Right(inner([]int{5, 6, 7}, "a", long(length))); got != want {
			t.Errorf("a second key of %d bytes: %v", length, got)
		}
	}
}

func TestRightByNumbers(t *testing.T) {
	for kids := range 6 {
		for keys := range 6 {
			n := Node{}
			for i := range kids {
				n.Kids = append(n.Kids, 9-i)
			}
			for i := range keys {
				n.Keys = append(n.Keys, letter(i))
			}
			if got := Right(n); got != (kids >= 1 && keys == kids-1) {
				t.Errorf("%d kids, %d keys: %v", kids, keys, got)
			}
			n.Leaf = true
			if got := Right(n); got != (kids == 0 && keys == 0) {
				t.Errorf("a leaf with %d kids, %d keys: %v", kids, keys, got)
			}
		}
	}
}

func TestSize(t *testing.T) {
	for _, c := range []struct {
		n    Node
		want int
	}{
		{leaf(), 0},
		{leaf("a", "xy"), 5},
		{leaf("a", "xy", "bcd", "", "e", "f"), 14},
		{leaf(long(16), long(40)), 58},
		{fullLeaf(0), 240},
		{fullLeaf(1), 241},
		{inner([]int{5}), 4},
		{inner([]int{5, 9}, "m"), 10},
		{inner([]int{5, 9, 300}, "m", "mno"), 18},
		{inner([]int{5, 9}, long(16)), 25},
		{fullInner(0), 240},
		{fullInner(1), 241},
		// What is not right has a Size too: a leaf that of its entries, an inner node that of its keys.
		{Node{}, 4},
		{inner(nil, "m"), 10},
		{inner([]int{5, 6, 7}), 4},
		{inner([]int{-1, 0, 1}, "", ""), 14},
		{inner([]int{5}, long(300), "é"), 316},
		{Node{Entries: leaf("a", "xy").Entries}, 4},
		{Node{Leaf: true, Kids: []int{5, 9}, Keys: []string{"m"}}, 0},
		{Node{Leaf: true, Entries: leaf("a", "xy").Entries, Keys: []string{"m"}}, 5},
		{leaf("b", "", "a", "", "", ""), 8},
		{leaf(long(300), long(300)), 602},
	} {
		if got := Size(c.n); got != c.want {
			t.Errorf("Size(%+v) = %d, want %d", c.n, got, c.want)
		}
	}
}

func TestFits(t *testing.T) {
	for _, n := range rightNodes() {
		if got := Fits(n); got != (Size(n) <= 240) {
			t.Errorf("a right node of %d bytes: %v", Size(n), got)
		}
	}
	for what, n := range wrongNodes() {
		if Fits(n) {
			t.Errorf("%s: %+v fits", what, n)
		}
	}
	for more := -5; more <= 5; more++ {
		for _, n := range []Node{fullLeaf(more), fullInner(more)} {
			if got := Fits(n); got != (more <= 0) {
				t.Errorf("%d bytes: %v", 240+more, got)
			}
		}
	}
}

func TestChild(t *testing.T) {
	n := inner([]int{5, 6, 7, 8, 9, 10}, "B", "a", "ab", "z", "\x80")
	for _, c := range []struct {
		key  string
		want int
	}{
		{"", 0}, {"\x00", 0}, {"A", 0}, {"B", 1}, {"B\x00", 1}, {"b", 3}, {"a", 2}, {"a\x00", 2}, {"aa", 2}, {"ab", 3},
		{"ab\x00", 3}, {"y", 3}, {"z", 4}, {"zz", 4}, {"\x7f", 4}, {"\x80", 5}, {"\xff", 5}, {long(300), 3}, {strings.Repeat("\xff", 300), 5},
	} {
		if got := Child(n, c.key); got != c.want {
			t.Errorf("Child(%q) = %d, want %d", c.key, got, c.want)
		}
		if got := Child(inner([]int{5}), c.key); got != 0 {
			t.Errorf("Child of one kid, %q = %d", c.key, got)
		}
		if got := Child(leaf("a", "", "b", ""), c.key); got != 0 {
			t.Errorf("Child of a leaf, %q = %d", c.key, got)
		}
		if got := Child(Node{}, c.key); got != 0 {
			t.Errorf("Child of nothing, %q = %d", c.key, got)
		}
	}
}

// The kid i has the keys that are not below Keys[i-1], and below Keys[i].
func TestChildHasItsKeys(t *testing.T) {
	for _, n := range rightNodes() {
		if n.Leaf {
			continue
		}
		for _, key := range append([]string{"", "a", "k", "\xff\xff"}, n.Keys...) {
			for _, k := range []string{key, key + "\x00", strings.TrimSuffix(key, "k")} {
				i := Child(n, k)
				if i < 0 || i >= len(n.Kids) || i > 0 && k < n.Keys[i-1] || i < len(n.Keys) && k >= n.Keys[i] {
					t.Errorf("Child(%+v, %q) = %d", n, k, i)
				}
			}
		}
	}
}

// Of nodes that are not right the keys are counted too.
func TestChildOfWrongNodes(t *testing.T) {
	for _, c := range []struct {
		n    Node
		key  string
		want int
	}{
		{inner(nil, "c", "a", "b"), "b", 2},
		{inner(nil, "c", "a", "b"), "a", 1},
		{inner([]int{5}, "z", "a", "a", "y"), "b", 2},
		{inner([]int{5}, "", "", ""), "", 3},
		{Node{Leaf: true, Keys: []string{"a", "b"}}, "a", 1},
	} {
		if got := Child(c.n, c.key); got != c.want {
			t.Errorf("Child(%+v, %q) = %d, want %d", c.n, c.key, got, c.want)
		}
	}
}

func TestSplit(t *testing.T) {
	for _, c := range []struct {
		n, a Node
		key  string
		b    Node
	}{
		{leaf("a", "1", "b", "2"), leaf("a", "1"), "b", leaf("b", "2")},
		{leaf("a", "1", "b", "2", "c", "3"), leaf("a", "1", "b", "2"), "c", leaf("c", "3")},
		{leaf("a", "1", "b", "2", "c", "3", "d", "4"), leaf("a", "1", "b", "2"), "c", leaf("c", "3", "d", "4")},
		{leaf("a", long(40), "b", "2", "c", "3"), leaf("a", long(40)), "b", leaf("b", "2", "c", "3")},
		{leaf("a", "1", "b", "2", "c", long(40)), leaf("a", "1", "b", "2"), "c", leaf("c", long(40))},
		{leaf("a", "", long(16), ""), leaf("a", ""), long(16), leaf(long(16), "")},
		{inner([]int{5, 9}, "m"), inner([]int{5}), "m", inner([]int{9})},
		{inner([]int{5, 9, 7}, "m", "n"), inner([]int{5}), "m", inner([]int{9, 7}, "n")},
		{inner([]int{5, 6, 7, 8}, "c", "m", "t"), inner([]int{5, 6}, "c"), "m", inner([]int{7, 8}, "t")},
		{inner([]int{5, 6, 7, 8, 9}, "c", "m", "t", "x"), inner([]int{5, 6}, "c"), "m", inner([]int{7, 8, 9}, "t", "x")},
		// Kids are counted, not bytes.
		{inner([]int{5, 6, 7, 8}, long(16), "m", "t"), inner([]int{5, 6}, long(16)), "m", inner([]int{7, 8}, "t")},
	} {
		if a, key, b := Split(c.n); !same(a, c.a) || key != c.key || !same(b, c.b) {
			t.Errorf("Split(%+v) = %+v, %q, %+v", c.n, a, key, b)
		}
	}
}

func TestWhatIsNotSplit(t *testing.T) {
	nodes := wrongNodes()
	nodes["an empty leaf"] = leaf()
	nodes["a leaf of one"] = leaf("a", "1")
	nodes["one kid"] = inner([]int{5})
	for what, n := range nodes {
		if a, key, b := Split(n); !same(a, n) || key != "" || !same(b, Node{}) {
			t.Errorf("%s: Split(%+v) = %+v, %q, %+v", what, n, a, key, b)
		}
	}
}

// splitsBack tells whether a right node was split: then both parts are right, have their keys on their side, and lead back.
func splitsBack(t testing.TB, n Node) bool {
	t.Helper()
	a, key, b := Split(n)
	if len(n.Entries) < 2 && len(n.Kids) < 2 {
		if !same(a, n) || key != "" || !same(b, Node{}) {
			t.Fatalf("Split(%+v) = %+v, %q, %+v", n, a, key, b)
		}
		return false
	}
	if !Right(a) || !Right(b) || a.Leaf != n.Leaf || b.Leaf != n.Leaf || key == "" || len(key) > 16 {
		t.Fatalf("Split(%+v) = %+v, %q, %+v: not right", n, a, key, b)
	}
	if len(a.Entries)+len(a.Kids) == 0 || len(b.Entries)+len(b.Kids) == 0 || len(a.Kids) != len(n.Kids)/2 {
		t.Fatalf("Split(%+v) = %+v, %q, %+v", n, a, key, b)
	}
	if back := Join(a, key, b); !same(back, n) {
		t.Fatalf("Split(%+v) = %+v, %q, %+v; joined: %+v", n, a, key, b, back)
	}
	if both := inner([]int{5, 6}, key); slices.ContainsFunc(a.Entries, func(e api.Entry) bool { return Child(both, e.Key) != 0 }) ||
		slices.ContainsFunc(b.Entries, func(e api.Entry) bool { return Child(both, e.Key) != 1 }) {
		t.Fatalf("Split(%+v): %q is not between", n, key)
	}
	return true
}

func TestSplitAndJoinLeadBack(t *testing.T) {
	count := 0
	for _, n := range rightNodes() {
		if splitsBack(t, n) {
			count++
		}
	}
	if count < 12 {
		t.Errorf("just %d nodes were split", count)
	}
}

func TestJoin(t *testing.T) {
	one, two := leaf("a", "1").Entries, leaf("b", "2").Entries
	for _, c := range []struct {
		a    Node
		key  string
		b    Node
		want Node
	}{
		{leaf("a", "1"), "b", leaf("b", "2"), leaf("a", "1", "b", "2")},
		{leaf("a", "1"), "", leaf("b", "2"), leaf("a", "1", "b", "2")},
		{leaf(), "x", leaf(), leaf()},
		{leaf(), "x", leaf("a", "1"), leaf("a", "1")},
		{leaf("a", "1"), "x", leaf(), leaf("a", "1")},
		{inner([]int{5}), "m", inner([]int{9}), inner([]int{5, 9}, "m")},
		{inner([]int{5, 6}, "a"), "m", inner([]int{8, 9}, "x"), inner([]int{5, 6, 8, 9}, "a", "m", "x")},
		// Whatever they have: nothing is asked of a node, of its keys, or of the key.
		{leaf("b", "2"), "x", leaf("a", "1"), leaf("b", "2", "a", "1")},
		{leaf("a", "1"), "x", leaf("a", "1"), leaf("a", "1", "a", "1")},
		{inner([]int{5, 6}, "x"), "m", inner([]int{8, 9}, "a"), inner([]int{5, 6, 8, 9}, "x", "m", "a")},
		{inner([]int{5}), "", inner([]int{9}), inner([]int{5, 9}, "")},
		{inner([]int{5}), long(300), inner([]int{-9}), inner([]int{5, -9}, long(300))},
		{Node{}, "m", Node{}, inner(nil, "m")},
		{inner([]int{5}), "m", Node{}, inner([]int{5}, "m")},
		{inner(nil, "a", "b"), "m", inner([]int{1, 1, 1}), inner([]int{1, 1, 1}, "a", "b", "m")},
		{Node{Entries: one, Kids: []int{5}}, "m", Node{Entries: two, Keys: []string{"n"}},
			Node{Entries: leaf("a", "1", "b", "2").Entries, Kids: []int{5}, Keys: []string{"m", "n"}}},
		{Node{Leaf: true, Entries: one, Kids: []int{5}, Keys: []string{"k"}}, "m", Node{Leaf: true, Entries: two, Kids: []int{6}, Keys: []string{"n"}},
			Node{Leaf: true, Entries: leaf("a", "1", "b", "2").Entries, Kids: []int{5, 6}, Keys: []string{"k", "n"}}},
	} {
		if got := Join(c.a, c.key, c.b); !same(got, c.want) {
			t.Errorf("Join(%+v, %q, %+v) = %+v", c.a, c.key, c.b, got)
		}
	}
}

func TestLeavesAndInnerNodesAreNotJoined(t *testing.T) {
	nodes := rightNodes()
	for _, n := range wrongNodes() {
		nodes = append(nodes, n)
	}
	for _, a := range nodes {
		for _, b := range nodes {
			if a.Leaf == b.Leaf {
				continue
			}
			if got := Join(a, "m", b); !same(got, a) {
				t.Errorf("Join(%+v, m, %+v) = %+v", a, b, got)
			}
		}
	}
}
