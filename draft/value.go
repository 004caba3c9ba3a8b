package draft

import (
	"slices"

	"rootstock/api"
	"rootstock/codec"
	"rootstock/edge"
)

// The places of a value's ties, and of a family. One side is the both of them less the other one: so what is done on one side and on the other is written once.
const (
	above = iota
	left
	right
	both = left + right
)

// most is the greatest number of tokens that four bytes tell.
const most = 1<<32 - 1

// tallest is the greatest height of a tree: one of a height more, whose heights differ by one everywhere, would have more tokens than most.
const tallest = 45

// mark is the byte with which the keys of tokens begin.
const mark = "N"

// noneText is the tie to no token, of the size of any other one.
const noneText = "\xff\xff\xff\xff\xff\xff\xff\xff"

// none stands for no token.
var none = api.Token{A: -1, B: -1}

// value is what is kept of a token. That of none is the zero value, whose ties are never asked.
type value struct {
	ties   [3]api.Token
	count  int
	height int
}

// family is the value of a token, at above, and of the tokens to its left and to its right.
type family [3]value

// isToken tells whether both numbers of a token are vertices.
func isToken(k api.Token) bool {
	return edge.Vertex(k.A) == api.OK && edge.Vertex(k.B) == api.OK
}

// keyOf is the key of a token.
func keyOf(k api.Token) string {
	return codec.Join(mark, tieText(k))
}

func tieText(k api.Token) string {
	if k == none {
		return noneText
	}
	// Whoever comes here has asked isToken: no error is left to be told.
	text, _ := edge.Key(k.A, k.B)
	return text
}

func readTie(text string) (api.Token, bool) {
	if text == noneText {
		return none, true
	}
	a, b, err := edge.Parse(text)
	return api.Token{A: a, B: b}, err == api.OK
}

// encode is a value, that is right, as bytes.
func (v value) encode() string {
	count, _ := codec.Put(4, v.count)
	height, _ := codec.Put(1, v.height)
	return codec.Join(tieText(v.ties[above]), tieText(v.ties[left]), tieText(v.ties[right]), count, height)
}

// decode is the value of a token, if the bytes are just those of one.
func decode(k api.Token, text string) (value, bool) {
	r := codec.Read(text)
	var v value
	for i := range v.ties {
		tie, ok := readTie(r.Bytes(len(noneText)))
		if !ok {
			return value{}, false
		}
		v.ties[i] = tie
	}
	v.count, v.height = r.Int(4), r.Int(1)
	return v, r.End() == api.OK && v.isRight(k)
}

// isRight tells whether a value may be that of a token, as far as it tells that itself: it has as many kids as so many tokens must have. (One that counts no tokens would have less than none.)
func (v value) isRight(k api.Token) bool {
	if !v.unlike(k) || !holds(v.height, v.count) {
		return false
	}
	kids := 0
	for _, kid := range v.ties[left:] {
		if kid != none {
			kids++
		}
	}
	return kids == min(v.count-1, len(v.ties[left:]))
}

// unlike tells whether a token and its ties are all other ones.
func (v value) unlike(k api.Token) bool {
	for i, tie := range v.ties {
		if tie != none && (tie == k || slices.Contains(v.ties[:i], tie)) {
			return false
		}
	}
	return true
}

// sideOf is the side on which a token hangs below one with this value, and whether both values fit together: what is left for the other side must fit as well.
func (v value) sideOf(k api.Token, kid value) (int, bool) {
	side := left
	if v.ties[right] == k {
		side = right
	}
	rest := v.count - 1 - kid.count
	switch {
	case v.ties[side] != k:
		return 0, false
	case kid.height == v.height-1:
		return side, holds(v.height-1, rest) || holds(v.height-2, rest)
	case kid.height == v.height-2:
		return side, holds(v.height-1, rest)
	}
	return 0, false
}

// fits tells whether the values of a family, of that token, fit together.
func (f family) fits(k api.Token) bool {
	v, l, r := f[above], f[left], f[right]
	for side := left; side <= right; side++ {
		if v.ties[side] != none && f[side].ties[above] != k {
			return false
		}
	}
	return v.count == l.count+r.count+1 && v.height == max(l.height, r.height)+1 && max(l.height, r.height)-min(l.height, r.height) <= 1
}

// holds tells whether a tree of a height may have so many tokens.
func holds(height, count int) bool {
	if height < 0 || height > tallest || count > most {
		return false
	}
	return least(height) <= count && count <= 1<<height-1
}

// least is how many tokens a tree of a height has at least, if the heights of left and right differ by at most one everywhere.
func least(height int) int {
	n, next := 0, 1
	for range height {
		n, next = next, n+next+1
	}
	return n
}
