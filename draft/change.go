package draft

import (
	"slices"

	"rootstock/api"
)

// Make is a sequence of one token.
func (d *Draft) Make(k api.Token) api.Errno {
	there, err := d.Has(k)
	switch {
	case err != api.OK:
		return err
	case there:
		return api.ErrThere
	}
	return d.bind(left, none, k, none)
}

// Remove takes a token away that is alone.
func (d *Draft) Remove(k api.Token) api.Errno {
	root, err := d.rootOf(k)
	switch {
	case err != api.OK:
		return err
	case root.count != 1:
		return api.ErrArg
	}
	d.is[k] = value{}
	return api.OK
}

// Join makes one sequence of two.
func (d *Draft) Join(a, b api.Token) api.Errno {
	first, second, err := d.roots(a, b)
	switch {
	case err != api.OK:
		return err
	case first.token == second.token:
		return api.ErrArg
	}
	return d.chain(first, second)
}

// Split cuts a sequence ahead of a token.
func (d *Draft) Split(k api.Token) api.Errno {
	return d.split(k, left)
}

// SplitAfter cuts a sequence behind a token.
func (d *Draft) SplitAfter(k api.Token) api.Errno {
	return d.split(k, right)
}

// split makes two sequences of one: what stands at a side of a token, if there is any, and that token with the rest.
func (d *Draft) split(k api.Token, side int) api.Errno {
	if err := d.need(k); err != api.OK {
		return err
	}
	f, way, err := d.way(k)
	if err != api.OK || isEnd(f, way, side) {
		return err
	}
	parts, err := d.cut(f, way)
	if err != api.OK {
		return err
	}
	_, err = d.join(side, none, k, parts[both-side])
	return err
}

// chain makes one tree of two, the first one's tokens ahead. The token between them is taken from the lower one, since the way to its end is shorter.
func (d *Draft) chain(first, second knot) api.Errno {
	side, tall, low := left, first, second
	if first.height < second.height {
		side, tall, low = right, second, first
	}
	k, err := d.end(low.token, side)
	if err != api.OK {
		return err
	}
	f, way, err := d.way(k)
	if err != api.OK {
		return err
	}
	parts, err := d.cut(f, way)
	if err != api.OK {
		return err
	}
	_, err = d.join(side, tall.token, k, parts[both-side])
	return err
}

// end is the last token of a tree on a side.
func (d *Draft) end(k api.Token, side int) (api.Token, api.Errno) {
	return d.down(k, func(f family) int {
		if f[above].ties[side] == none {
			return above
		}
		return side
	})
}

// way is the family of a token, and the steps from it up to the root. All families on it must be seen ahead of the first change, by which they do not fit together any more.
func (d *Draft) way(k api.Token) (family, []step, api.Errno) {
	f, err := d.open(k)
	if err != api.OK {
		return family{}, nil, err
	}
	var way []step
	_, err = d.up(k, func(at step) api.Errno {
		way = append(way, at)
		_, err := d.open(at.to.token)
		return err
	})
	return f, way, err
}

// isEnd tells whether a token with that family, and that way up, is the last one on a side.
func isEnd(f family, way []step, side int) bool {
	return f[above].ties[side] == none && !slices.ContainsFunc(way, func(at step) bool { return at.side != side })
}

// cut takes a token with that family, and that way up, out of its tree: what comes of it are two trees, of what stood to its left and to its right, told by their roots. On the way up each token goes, with its other side, to the tree that it stands in.
func (d *Draft) cut(f family, way []step) ([3]api.Token, api.Errno) {
	parts := f[above].ties
	for _, at := range way {
		far := both - at.side
		root, err := d.join(at.side, parts[far], at.to.token, at.to.ties[far])
		if err != api.OK {
			return [3]api.Token{}, err
		}
		parts[far] = root
	}
	for _, root := range parts[left:] {
		if err := d.hang(root, none); err != api.OK {
			return [3]api.Token{}, err
		}
	}
	return parts, api.OK
}

// join makes one tree of two and a token between them; a stands at that side. The token goes down the taller one, till what is there is about as tall as the lower one.
func (d *Draft) join(side int, a, k, b api.Token) (api.Token, api.Errno) {
	heightA, heightB, err := d.heights(a, b)
	switch {
	case err != api.OK:
		return api.Token{}, err
	case heightB > heightA+1:
		return d.join(both-side, b, k, a)
	case heightA <= heightB+1:
		return k, d.bind(side, a, k, b)
	}
	f, err := d.open(a)
	if err != api.OK {
		return api.Token{}, err
	}
	far := both - side
	lower, err := d.join(side, f[above].ties[far], k, b)
	if err != api.OK {
		return api.Token{}, err
	}
	return d.balance(side, f[above].ties[side], a, lower)
}

// balance makes one tree of two and a token between them; a stands at that side, and b may be taller than it by two.
func (d *Draft) balance(side int, a, k, b api.Token) (api.Token, api.Errno) {
	heightA, heightB, err := d.heights(a, b)
	if err != api.OK {
		return api.Token{}, err
	}
	if heightB <= heightA+1 {
		return k, d.bind(side, a, k, b)
	}
	f, err := d.open(b)
	if err != api.OK {
		return api.Token{}, err
	}
	near, far := f[above].ties[side], f[above].ties[both-side]
	if f[both-side].height >= f[side].height {
		return b, d.bindAll(side, [3]api.Token{a, k, near}, [3]api.Token{k, b, far})
	}
	g, err := d.open(near)
	if err != api.OK {
		return api.Token{}, err
	}
	inner, outer := g[above].ties[side], g[above].ties[both-side]
	return near, d.bindAll(side, [3]api.Token{a, k, inner}, [3]api.Token{outer, b, far}, [3]api.Token{k, near, b})
}

// heights are those of two trees.
func (d *Draft) heights(a, b api.Token) (int, int, api.Errno) {
	v, err := d.read(a)
	if err != api.OK {
		return 0, 0, err
	}
	w, err := d.read(b)
	return v.height, w.height, err
}

// bindAll binds one behind the other.
func (d *Draft) bindAll(side int, binds ...[3]api.Token) api.Errno {
	for _, b := range binds {
		if err := d.bind(side, b[0], b[1], b[2]); err != api.OK {
			return err
		}
	}
	return api.OK
}

// bind puts a token above two trees, about as tall as one another, of which a stands at that side.
func (d *Draft) bind(side int, a, k, b api.Token) api.Errno {
	v := value{count: 1, height: 1}
	v.ties[above], v.ties[side], v.ties[both-side] = none, a, b
	for _, kid := range v.ties[left:] {
		w, err := d.read(kid)
		if err != api.OK {
			return err
		}
		v.count += w.count
		v.height = max(v.height, w.height+1)
		if err := d.hang(kid, k); err != api.OK {
			return err
		}
	}
	// Trees whose values claim more tokens than there can be come to more than four bytes tell.
	if !v.isRight(k) {
		return api.ErrCorrupt
	}
	d.is[k] = v
	return api.OK
}

// hang ties the root of a tree, if there is one, to the token above it, or to none.
func (d *Draft) hang(k, to api.Token) api.Errno {
	if k == none {
		return api.OK
	}
	v, err := d.read(k)
	if err != api.OK {
		return err
	}
	v.ties[above] = to
	// One that claims the token above it as its kid, too, is not gone on with: what is in a draft is not looked at again.
	if !v.isRight(k) {
		return api.ErrCorrupt
	}
	d.is[k] = v
	return api.OK
}
