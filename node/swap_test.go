package node

import (
	"math"
	"slices"
	"testing"

	"rootstock/api"
)

func TestSwap(t *testing.T) {
	n := inner([]int{5, 6, 7, 8}, "c", "m", "t")
	for _, c := range []struct {
		from, to int
		kids     []int
		keys     []string
		want     Node
	}{
		{0, 1, []int{20}, nil, inner([]int{20, 6, 7, 8}, "c", "m", "t")},
		{3, 4, []int{20}, nil, inner([]int{5, 6, 7, 20}, "c", "m", "t")},
		{0, 1, []int{20, 21}, []string{"b"}, inner([]int{20, 21, 6, 7, 8}, "b", "c", "m", "t")},
		{1, 2, []int{20, 21}, []string{"e"}, inner([]int{5, 20, 21, 7, 8}, "c", "e", "m", "t")},
		{1, 2, []int{20, 21, 22}, []string{"e", "f"}, inner([]int{5, 20, 21, 22, 7, 8}, "c", "e", "f", "m", "t")},
		{3, 4, []int{20, 21}, []string{"x"}, inner([]int{5, 6, 7, 20, 21}, "c", "m", "t", "x")},
		{0, 2, []int{9}, nil, inner([]int{9, 7, 8}, "m", "t")},
		{1, 3, []int{9}, nil, inner([]int{5, 9, 8}, "c", "t")},
		{2, 4, []int{9}, nil, inner([]int{5, 6, 9}, "c", "m")},
		{1, 3, []int{20, 21}, []string{"p"}, inner([]int{5, 20, 21, 8}, "c", "p", "t")},
		{1, 4, []int{20, 21}, []string{"p"}, inner([]int{5, 20, 21}, "c", "p")},
		{0, 4, []int{9}, nil, inner([]int{9})},
		{0, 4, []int{20, 21}, []string{"p"}, inner([]int{20, 21}, "p")},
		// No kid comes: one key more goes.
		{0, 1, nil, nil, inner([]int{6, 7, 8}, "m", "t")},
		{1, 2, nil, nil, inner([]int{5, 7, 8}, "m", "t")},
		{2, 3, nil, nil, inner([]int{5, 6, 8}, "c", "t")},
		{3, 4, nil, nil, inner([]int{5, 6, 7}, "c", "m")},
		{0, 2, nil, nil, inner([]int{7, 8}, "t")},
		{1, 3, nil, nil, inner([]int{5, 8}, "t")},
		{2, 4, nil, nil, inner([]int{5, 6}, "c")},
		{0, 3, nil, nil, inner([]int{8})},
		{1, 4, nil, nil, inner([]int{5})},
		{0, 4, nil, nil, inner(nil)},
		{1, 2, []int{}, []string{}, inner([]int{5, 7, 8}, "m", "t")},
		// Nothing is asked of what comes.
		{1, 2, []int{-1, 0}, []string{""}, inner([]int{5, -1, 0, 7, 8}, "c", "", "m", "t")},
		{1, 2, []int{5, 5}, []string{"a"}, inner([]int{5, 5, 5, 7, 8}, "c", "a", "m", "t")},
	} {
		if got := Swap(n, c.from, c.to, c.kids, c.keys); !same(got, c.want) {
			t.Errorf("Swap(%d, %d, %v, %q) = %+v, want %+v", c.from, c.to, c.kids, c.keys, got, c.want)
		}
	}
}

func TestSwapOfOneKid(t *testing.T) {
	n := inner([]int{5})
	for _, c := range []struct {
		kids []int
		keys []string
		want Node
	}{
		{nil, nil, inner(nil)},
		{[]int{9}, nil, inner([]int{9})},
		{[]int{8, 9}, []string{"a"}, inner([]int{8, 9}, "a")},
	} {
		if got := Swap(n, 0, 1, c.kids, c.keys); !same(got, c.want) {
			t.Errorf("Swap(%v, %q) = %+v, want %+v", c.kids, c.keys, got, c.want)
		}
	}
}

func TestWhatIsNotSwapped(t *testing.T) {
	nodes := rightNodes()
	for _, n := range wrongNodes() {
		nodes = append(nodes, n)
	}
	for _, n := range nodes {
		k := len(n.Kids)
		for _, c := range []struct {
			from, to int
			kids     []int
			keys     []string
		}{
			{-1, 1, []int{9}, nil},
			{-1, 0, nil, nil},
			{math.MinInt, 1, []int{9}, nil},
			{math.MinInt, math.MinInt, nil, nil},
			{0, math.MinInt, []int{9}, nil},
			{1, math.MinInt, nil, nil},
			{math.MaxInt, math.MinInt, nil, nil},
			{math.MinInt, math.MaxInt, nil, nil},
			{0, math.MaxInt, []int{9}, nil},
			{0, k + 1, []int{9}, nil},
			{k, k + 1, []int{9}, nil},
			{k, k, []int{9}, nil},
			{math.MaxInt, math.MaxInt, nil, nil},
			{0, 0, []int{9}, nil},
			{0, 0, nil, nil},
			{0, -1, nil, nil},
			{1, 1, []int{9}, nil},
			{2, 1, []int{9}, nil},
			{0, 1, []int{9}, []string{"x"}},
			{0, 1, []int{9}, []string{"x", "y"}},
			{0, 1, []int{8, 9}, nil},
			{0, 1, []int{8, 9}, []string{"x", "y"}},
			{0, 1, []int{7, 8, 9}, []string{"x"}},
			{0, 1, nil, []string{"x"}},
			{0, k, nil, []string{"x"}},
			{0, k, []int{9}, []string{"x"}},
		} {
			if got := Swap(n, c.from, c.to, c.kids, c.keys); !same(got, n) {
				t.Errorf("Swap(%+v, %d, %d, %v, %q) = %+v", n, c.from, c.to, c.kids, c.keys, got)
			}
		}
		if n.Leaf {
			swapLeaf(t, n)
		}
	}
}

// swapLeaf holds that a leaf stays, even one that has kids.
func swapLeaf(t *testing.T, n Node) {
	for from := range len(n.Kids) + 1 {
		for to := range len(n.Kids) + 1 {
			for _, kids := range [][]int{nil, {9}} {
				if got := Swap(n, from, to, kids, nil); !same(got, n) {
					t.Errorf("Swap(%+v, %d, %d, %v) = %+v", n, from, to, kids, got)
				}
			}
		}
	}
}

// Of an inner node that is not right, kids and keys go by their places: those that are not there need not go.
func TestSwapOfWrongNodes(t *testing.T) {
	one := []api.Entry{{Key: "a", Value: "1"}}
	for _, c := range []struct {
		n        Node
		from, to int
		kids     []int
		keys     []string
		want     Node
	}{
		{inner([]int{5, 6, 7}), 1, 2, []int{9}, nil, inner([]int{5, 9, 7})},
		{inner([]int{5, 6, 7}), 1, 2, []int{8, 9}, []string{"x"}, inner([]int{5, 8, 9, 7}, "x")},
		{inner([]int{5, 6, 7}), 1, 3, nil, nil, inner([]int{5})},
		{inner([]int{5, 6, 7}), 0, 3, nil, nil, inner(nil)},
		{inner([]int{5, 6, 7, 8}, "c"), 2, 3, nil, nil, inner([]int{5, 6, 8}, "c")},
		{inner([]int{5, 6, 7, 8}, "c"), 1, 2, nil, nil, inner([]int{5, 7, 8})},
		{inner([]int{5, 6, 7, 8}, "c"), 3, 4, []int{1, 2}, []string{"a"}, inner([]int{5, 6, 7, 1, 2}, "c", "a")},
		{inner([]int{5}, "a", "b", "c"), 0, 1, []int{9}, nil, inner([]int{9}, "a", "b", "c")},
		{inner([]int{5}, "a", "b", "c"), 0, 1, nil, nil, inner(nil, "b", "c")},
		{inner([]int{5, 6}, "b", "a"), 0, 2, []int{9}, nil, inner([]int{9}, "a")},
		{Node{Entries: one, Kids: []int{5, 6}, Keys: []string{"m"}}, 0, 1, []int{9}, nil,
			Node{Entries: one, Kids: []int{9, 6}, Keys: []string{"m"}}},
	} {
		if got := Swap(c.n, c.from, c.to, c.kids, c.keys); !same(got, c.want) {
			t.Errorf("Swap(%+v, %d, %d, %v, %q) = %+v, want %+v", c.n, c.from, c.to, c.kids, c.keys, got, c.want)
		}
	}
}

// plainSwap is Swap by the chapter's words: each kid and each key of a node is asked whether it stays.
func plainSwap(n Node, from, to int, kids []int, keys []string) Node {
	if from < 0 || to > len(n.Kids) || from >= to || n.Leaf {
		return n
	}
	if len(kids) == 0 && len(keys) > 0 || len(kids) > 0 && len(keys)+1 != len(kids) {
		return n
	}
	goes := func(kid int) bool { return from <= kid && kid < to }
	extra := -1
	if len(kids) == 0 {
		extra = from - 1
		if from == 0 {
			extra = to - 1
		}
	}
	m := Node{Entries: n.Entries}
	for i, kid := range n.Kids {
		if i == from {
			m.Kids = append(m.Kids, kids...)
		}
		if !goes(i) {
			m.Kids = append(m.Kids, kid)
		}
	}
	put := false
	for i, key := range n.Keys {
		if i >= from && !put {
			m.Keys, put = append(m.Keys, keys...), true
		}
		if i != extra && !(goes(i) && goes(i+1)) {
			m.Keys = append(m.Keys, key)
		}
	}
	if !put {
		m.Keys = append(m.Keys, keys...)
	}
	return m
}

// All nodes of few kids, right ones and ones with other numbers of keys, at all places, with few kids in their place.
func TestAllShortSwaps(t *testing.T) {
	for have := range 6 {
		for count := range have + 3 {
			n := inner([]int{10, 11, 12, 13, 14}[:min(have, 5)], []string{"a", "b", "c", "d", "e", "f", "g", "h"}[:count]...)
			for come := range 4 {
				kids := []int{20, 21, 22, 23}[:come]
				for between := range come + 1 {
					keys := []string{"x", "y", "z"}[:between]
					swapsAll(t, n, kids, keys)
				}
			}
		}
	}
}

func swapsAll(t *testing.T, n Node, kids []int, keys []string) {
	t.Helper()
	for from := -1; from <= len(n.Kids)+1; from++ {
		for to := -1; to <= len(n.Kids)+1; to++ {
			got, want := Swap(n, from, to, kids, keys), plainSwap(n, from, to, kids, keys)
			if !same(got, want) {
				t.Fatalf("Swap(%+v, %d, %d, %v, %q) = %+v, want %+v", n, from, to, kids, keys, got, want)
			}
			if Right(n) && len(got.Kids) > 0 && len(got.Keys) != len(got.Kids)-1 {
				t.Fatalf("Swap(%+v, %d, %d, %v, %q) = %+v: keys are not one fewer", n, from, to, kids, keys, got)
			}
		}
	}
}

// What is put in the place of a kid and taken back again leaves the node as it was: so a kid's split, and its parts' join.
func TestSwapsLeadBack(t *testing.T) {
	for _, n := range rightNodes() {
		for i := range n.Kids {
			split := Swap(n, i, i+1, []int{70, 71}, []string{"between"})
			if len(split.Kids) != len(n.Kids)+1 || split.Keys[i] != "between" {
				t.Fatalf("Swap(%+v, %d) = %+v", n, i, split)
			}
			if back := Swap(split, i, i+2, []int{n.Kids[i]}, nil); !same(back, n) {
				t.Fatalf("Swap(%+v, %d) = %+v", split, i, back)
			}
			less := Swap(n, i, i+1, nil, nil)
			if len(n.Kids) > 1 && (!Right(less) || !slices.Equal(less.Kids, slices.Delete(slices.Clone(n.Kids), i, i+1))) {
				t.Fatalf("Swap(%+v, %d) = %+v", n, i, less)
			}
		}
	}
}
