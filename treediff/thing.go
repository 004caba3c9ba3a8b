package treediff

import (
	"slices"

	"rootstock/node"
)

// span is the keys from from on, below to; to the end, if to is empty.
type span struct {
	from, to string
}

// empty tells whether no key is of the span.
func (s span) empty() bool {
	return s.to != "" && s.from >= s.to
}

// has tells whether a key is of the span.
func (s span) has(key string) bool {
	return s.from <= key && (s.to == "" || key < s.to)
}

// part is what the kid at a place has of a span.
func (s span) part(n node.Node, place int) span {
	if place > 0 {
		s.from = max(s.from, n.Keys[place-1])
	}
	if place < len(n.Keys) && (s.to == "" || n.Keys[place] < s.to) {
		s.to = n.Keys[place]
	}
	return s
}

// thing is what is still to be gone through: a page that was not read yet, with the keys that its parents say; or, if page is 0, an entry, whose key is from.
type thing struct {
	span
	page  int
	depth int
	value string
}

// isPage tells it from an entry.
func (x thing) isPage() bool {
	return x.page != 0
}

// ahead tells whether all keys of a thing are below those of another one.
func (x thing) ahead(y thing) bool {
	if !x.isPage() {
		return x.from < y.from
	}
	return x.to != "" && x.to <= y.from
}

// fromEnd goes through what a thing's node has, from the end. What lies beyond the thing's span is not to be found by its key, in a tree that is not whole, so it is left out: so keys rise, and there is an end, even where a page comes ever again.
func (x thing) fromEnd(n node.Node) func(yield func(thing) bool) {
	return func(yield func(thing) bool) {
		for _, e := range slices.Backward(n.Entries) {
			if x.has(e.Key) && !yield(thing{span: span{from: e.Key}, value: e.Value}) {
				return
			}
		}
		for place, kid := range slices.Backward(n.Kids) {
			part := x.part(n, place)
			if !part.empty() && !yield(thing{span: part, page: kid, depth: x.depth + 1}) {
				return
			}
		}
	}
}

// stack is things one behind the other, the first one at its end.
type stack []thing

// rootStack is a stack of a tree's root, or of nothing, if nothing is to be found there.
func rootStack(page int, s span) stack {
	if page == 0 || s.empty() {
		return nil
	}
	return stack{{span: s, page: page}}
}

// with is a stack with what a thing's node has on it.
func (s stack) with(x thing, n node.Node) stack {
	for y := range x.fromEnd(n) {
		s = append(s, y)
	}
	return s
}

// top is the first thing, and whether there is one.
func (s stack) top() (thing, bool) {
	if len(s) == 0 {
		return thing{}, false
	}
	return s[len(s)-1], true
}

// rest is a stack without its top.
func (s stack) rest() stack {
	return s[:len(s)-1]
}

// awaits tells whether a thing's page is still to come here too, and not just behind all its keys: then what is to come ahead of it is in this tree alone.
func (s stack) awaits(x thing) bool {
	return x.isPage() && slices.ContainsFunc(s, func(y thing) bool {
		return y.page == x.page && !x.ahead(y)
	})
}
