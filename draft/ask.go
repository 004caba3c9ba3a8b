package draft

import "rootstock/api"

// Has tells whether there is a token.
func (d *Draft) Has(k api.Token) (bool, api.Errno) {
	if !isToken(k) {
		return false, api.ErrVertex
	}
	_, there, err := d.find(k)
	return there, err
}

// Root is the same for all tokens of a sequence.
func (d *Draft) Root(k api.Token) (api.Token, api.Errno) {
	root, err := d.rootOf(k)
	return root.token, err
}

// Same tells whether two tokens are in one sequence.
func (d *Draft) Same(a, b api.Token) (bool, api.Errno) {
	of, with, err := d.roots(a, b)
	return err == api.OK && of.token == with.token, err
}

// Count is how many tokens are in a token's sequence.
func (d *Draft) Count(k api.Token) (int, api.Errno) {
	root, err := d.rootOf(k)
	return root.count, err
}

// Height is the height of a sequence's tree.
func (d *Draft) Height(k api.Token) (int, api.Errno) {
	root, err := d.rootOf(k)
	return root.height, err
}

// Rank is how many tokens stand ahead of one.
func (d *Draft) Rank(k api.Token) (int, api.Errno) {
	if err := d.need(k); err != api.OK {
		return 0, err
	}
	f, err := d.open(k)
	if err != api.OK {
		return 0, err
	}
	rank := f[left].count
	_, err = d.up(k, func(at step) api.Errno {
		if at.side == right {
			rank += at.to.count - at.from.count
		}
		return api.OK
	})
	if err != api.OK {
		return 0, err
	}
	return rank, api.OK
}

// At is the token with so many ahead of it.
func (d *Draft) At(k api.Token, i int) (api.Token, api.Errno) {
	root, err := d.rootOf(k)
	switch {
	case err != api.OK:
		return api.Token{}, err
	case i < 0 || i >= root.count:
		return api.Token{}, api.ErrArg
	}
	return d.down(root.token, func(f family) int {
		ahead := f[left].count
		switch {
		case i < ahead:
			return left
		case i == ahead:
			return above
		}
		i -= ahead + 1
		return right
	})
}

// List are all tokens of a sequence.
func (d *Draft) List(k api.Token) ([]api.Token, api.Errno) {
	root, err := d.rootOf(k)
	if err != api.OK {
		return nil, err
	}
	var l []api.Token
	err = d.each(root.token, func(k api.Token) { l = append(l, k) })
	if err != api.OK {
		return nil, err
	}
	return l, api.OK
}
