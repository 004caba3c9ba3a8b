package seq

import (
	"slices"
	"testing"

	"rootstock/alloc"
	"rootstock/api"
	"rootstock/cowtree"
	"rootstock/disk"
	"rootstock/pagefile"
)

// newFile is a file on a disk of its own.
func newFile(sectors int) *pagefile.File {
	return pagefile.New(disk.New(sectors))
}

// newTree is a tree without keys on a disk of its own.
func newTree(sectors int) *cowtree.Tree {
	return cowtree.New(alloc.New(newFile(sectors), nil, 2), 0)
}

// tok is one of the tokens of the tests: their keys do not come in the order of i.
func tok(i int) api.Token {
	return api.Token{A: i * 7919 % 1000, B: i}
}

func toks(of ...int) []api.Token {
	var l []api.Token
	for _, i := range of {
		l = append(l, tok(i))
	}
	return l
}

// row makes of tokens one sequence.
func row(t *testing.T, s *Seq, l ...api.Token) {
	t.Helper()
	for i, k := range l {
		if err := s.Make(k); err != api.OK {
			t.Fatal(i, k, err)
		}
		if i == 0 {
			continue
		}
		if err := s.Join(l[0], k); err != api.OK {
			t.Fatal(i, k, err)
		}
	}
}

// count is how many tokens from 0 on: 0, 1, ..
func count(n int) []int {
	var l []int
	for i := range n {
		l = append(l, i)
	}
	return l
}

// plain is sequences by the chapter's words: lists.
type plain struct{ lists [][]api.Token }

func (p *plain) find(k api.Token) (list, place int) {
	for i, l := range p.lists {
		if j := slices.Index(l, k); j >= 0 {
			return i, j
		}
	}
	return -1, -1
}

func vertex(tokens ...api.Token) bool {
	for _, k := range tokens {
		if k.A < 0 || k.A > 1048575 || k.B < 0 || k.B > 1048575 {
			return false
		}
	}
	return true
}

func (p *plain) wrong(tokens ...api.Token) api.Errno {
	if !vertex(tokens...) {
		return api.ErrVertex
	}
	for _, k := range tokens {
		if i, _ := p.find(k); i < 0 {
			return api.ErrAbsent
		}
	}
	return api.OK
}

func (p *plain) make(k api.Token) api.Errno {
	switch err := p.wrong(k); err {
	case api.OK:
		return api.ErrThere
	case api.ErrVertex:
		return err
	}
	p.lists = append(p.lists, []api.Token{k})
	return api.OK
}

func (p *plain) remove(k api.Token) api.Errno {
	if err := p.wrong(k); err != api.OK {
		return err
	}
	i, _ := p.find(k)
	if len(p.lists[i]) != 1 {
		return api.ErrArg
	}
	p.lists = slices.Delete(p.lists, i, i+1)
	return api.OK
}

func (p *plain) join(a, b api.Token) api.Errno {
	if err := p.wrong(a, b); err != api.OK {
		return err
	}
	i, _ := p.find(a)
	j, _ := p.find(b)
	if i == j {
		return api.ErrArg
	}
	p.lists[i] = slices.Concat(p.lists[i], p.lists[j])
	p.lists = slices.Delete(p.lists, j, j+1)
	return api.OK
}

// split cuts so many behind a token's place.
func (p *plain) split(k api.Token, more int) api.Errno {
	if err := p.wrong(k); err != api.OK {
		return err
	}
	i, j := p.find(k)
	if at := j + more; at > 0 && at < len(p.lists[i]) {
		p.lists = append(p.lists, slices.Clone(p.lists[i][at:]))
		p.lists[i] = slices.Clone(p.lists[i][:at])
	}
	return api.OK
}

// kept is the value of a token, as the chapter tells its bytes.
type kept struct {
	up, left, right []byte
	count, height   int
}

func keptOf(t *testing.T, u *cowtree.Tree, k []byte) kept {
	t.Helper()
	v, ok, err := u.Get("N" + string(k))
	if !ok || err != api.OK || len(v) != 29 {
		t.Fatalf("%x: %x, %v, %v", k, v, ok, err)
	}
	b := []byte(v)
	return kept{up: b[:8], left: b[8:16], right: b[16:24], count: int(b[24])<<24 | int(b[25])<<16 | int(b[26])<<8 | int(b[27]), height: int(b[28])}
}

func bytesOf(k api.Token) []byte {
	return []byte{byte(k.A >> 24), byte(k.A >> 16), byte(k.A >> 8), byte(k.A), byte(k.B >> 24), byte(k.B >> 16), byte(k.B >> 8), byte(k.B)}
}

const noneBytes = "\xff\xff\xff\xff\xff\xff\xff\xff"

// inOrder are the tokens of the tree below one that hangs below up, with its height; all that the chapter says of it must hold.
func inOrder(t *testing.T, u *cowtree.Tree, k, up []byte) ([][]byte, int) {
	t.Helper()
	if string(k) == noneBytes {
		return nil, 0
	}
	v := keptOf(t, u, k)
	l, a := inOrder(t, u, v.left, k)
	r, b := inOrder(t, u, v.right, k)
	all := slices.Concat(l, [][]byte{k}, r)
	if string(v.up) != string(up) || v.count != len(all) || v.height != max(a, b)+1 || max(a, b)-min(a, b) > 1 {
		t.Fatalf("%x: %x, %d below it, heights %d and %d", k, v, len(all), a, b)
	}
	return all, v.height
}

// fewest is how many tokens a tree of a height must have, whose heights differ by at most one everywhere.
func fewest(height int) int {
	l := []int{0, 1}
	for len(l) <= height {
		l = append(l, l[len(l)-1]+l[len(l)-2]+1)
	}
	return l[height]
}

// checkKept holds what a tree of keys has against lists: just these sequences, as the chapter says.
func checkKept(t *testing.T, u *cowtree.Tree, lists [][]api.Token) {
	t.Helper()
	keys, err := u.Scan("N", "O")
	if err != api.OK {
		t.Fatal(err)
	}
	tokens := 0
	for _, l := range lists {
		tokens += len(l)
		root := bytesOf(l[0])
		for range len(l) {
			if v := keptOf(t, u, root); string(v.up) != noneBytes {
				root = v.up
			}
		}
		got, height := inOrder(t, u, root, []byte(noneBytes))
		if !slices.EqualFunc(got, l, func(b []byte, k api.Token) bool { return string(b) == string(bytesOf(k)) }) {
			t.Fatalf("%x, not %v", got, l)
		}
		if len(l) < fewest(height) {
			t.Fatal(len(l), "of the height", height)
		}
	}
	if tokens != len(keys) {
		t.Fatal(len(keys), "keys of", tokens, "tokens")
	}
}

// checkAsked asks of each list all that may be asked of its token at a place.
func checkAsked(t *testing.T, s *Seq, lists [][]api.Token, place int) {
	t.Helper()
	for n, l := range lists {
		i := place % len(l)
		k := l[i]
		if got, err := s.List(k); err != api.OK || !slices.Equal(got, l) {
			t.Fatal(k, got, l, err)
		}
		if ok, err := s.Has(k); !ok || err != api.OK {
			t.Fatal(k, ok, err)
		}
		if c, err := s.Count(k); c != len(l) || err != api.OK {
			t.Fatal(k, c, len(l), err)
		}
		if r, err := s.Rank(k); r != i || err != api.OK {
			t.Fatal(k, r, i, err)
		}
		if h, err := s.Height(k); err != api.OK || len(l) < fewest(h) || h < 1 || len(l) >= 1<<h {
			t.Fatal(k, h, len(l), err)
		}
		if at, err := s.At(l[0], i); at != k || err != api.OK {
			t.Fatal(k, at, i, err)
		}
		for _, i := range []int{-1, len(l), len(l) + 7} {
			if at, err := s.At(k, i); at != (api.Token{}) || err != api.ErrArg {
				t.Fatal(k, at, i, err)
			}
		}
		root, err := s.Root(k)
		of, err2 := s.Root(l[len(l)-1])
		if root != of || err != api.OK || err2 != api.OK || !slices.Contains(l, root) {
			t.Fatal(root, of, err, err2)
		}
		for m, other := range lists {
			if same, err := s.Same(k, other[0]); same != (m == n) || err != api.OK {
				t.Fatal(k, other[0], same, err)
			}
		}
	}
}
