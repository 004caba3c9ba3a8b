package draft_test

import (
	"math/rand"
	"slices"
	"testing"

	"rootstock/alloc"
	"rootstock/api"
	"rootstock/cowtree"
	"rootstock/disk"
	"rootstock/draft"
	"rootstock/pagefile"
	"rootstock/seq"
)

// newFile is a file on a disk of its own.
func newFile(sectors int) *pagefile.File {
	return pagefile.New(disk.New(sectors))
}

// newTree is a tree without keys on a disk of its own.
func newTree(sectors int) *cowtree.Tree {
	return cowtree.New(alloc.New(newFile(sectors), nil, 2), 0)
}

func tok(i int) api.Token {
	return api.Token{A: i * 7919 % 1000, B: i}
}

func toks(of ...int) []api.Token {
	var l []api.Token
	for _, i := range of {
		l = append(l, tok(i))
	}
	return l
}

// row makes of tokens one sequence.
func row(t *testing.T, s *seq.Seq, l ...api.Token) {
	t.Helper()
	for i, k := range l {
		if err := s.Make(k); err != api.OK {
			t.Fatal(k, err)
		}
		if i > 0 && s.Join(l[0], k) != api.OK {
			t.Fatal(k)
		}
	}
}

func count(n int) (l []int) {
	for i := range n {
		l = append(l, i)
	}
	return l
}

// unchanged holds that a tree of keys has all that it had, on the same pages, and is not done with.
func unchanged(t *testing.T, u *cowtree.Tree) func() {
	t.Helper()
	root := u.Root()
	was, _ := u.Scan("", "")
	return func() {
		t.Helper()
		if is, err := u.Scan("", ""); err != api.OK || u.Err() != api.OK || u.Root() != root || !slices.Equal(is, was) {
			t.Fatal("something was changed", err, u.Err())
		}
	}
}

// calls are those that a draft and the sequences have both.
type calls interface {
	Make(k api.Token) api.Errno
	Remove(k api.Token) api.Errno
	Join(a, b api.Token) api.Errno
	Split(k api.Token) api.Errno
	SplitAfter(k api.Token) api.Errno
	Has(k api.Token) (bool, api.Errno)
	Root(k api.Token) (api.Token, api.Errno)
	Same(a, b api.Token) (bool, api.Errno)
	Count(k api.Token) (int, api.Errno)
	Height(k api.Token) (int, api.Errno)
	Rank(k api.Token) (int, api.Errno)
	At(k api.Token, i int) (api.Token, api.Errno)
	List(k api.Token) ([]api.Token, api.Errno)
}

// told is all that a call tells.
type told struct {
	err  api.Errno
	yes  bool
	n    int
	k    api.Token
	list []api.Token
}

// call does what a number says with two tokens.
func call(c calls, op int, a, b api.Token) (x told) {
	switch op % 13 {
	case 0:
		x.err = c.Make(a)
	case 1:
		x.err = c.Remove(a)
	case 2:
		x.err = c.Join(a, b)
	case 3:
		x.err = c.Split(a)
	case 4:
		x.err = c.SplitAfter(a)
	case 5:
		x.yes, x.err = c.Has(a)
	case 6:
		x.k, x.err = c.Root(a)
	case 7:
		x.yes, x.err = c.Same(a, b)
	case 8:
		x.n, x.err = c.Count(a)
	case 9:
		x.n, x.err = c.Height(a)
	case 10:
		x.n, x.err = c.Rank(a)
	case 11:
		x.k, x.err = c.At(a, b.B)
	case 12:
		x.list, x.err = c.List(a)
	}
	return x
}

// some are calls of a script: who makes and joins comes more often.
func some(r *rand.Rand) (op int, a, b api.Token) {
	op = r.Intn(30)
	if op > 16 {
		op = 13*(op%2) + op%2*2
	}
	return op, tok(r.Intn(25)), tok(r.Intn(25))
}

// TestAsOneByOne: what many steps in one draft tell and leave is what the same steps tell and leave one by one.
func TestAsOneByOne(t *testing.T) {
	r := rand.New(rand.NewSource(1))
	most := 0
	for range 60 {
		u, v := newTree(3000), newTree(3000)
		s := seq.New(v)
		for range 20 {
			err := draft.Do(u, func(d *draft.Draft) api.Errno {
				for range r.Intn(12) {
					op, a, b := some(r)
					got, want := call(d, op, a, b), call(s, op, a, b)
					if got.err != want.err || got.yes != want.yes || got.n != want.n || got.k != want.k || !slices.Equal(got.list, want.list) {
						t.Fatal(op, a, b, got, want)
					}
					most = max(most, len(got.list))
				}
				return api.OK
			})
			if err != api.OK {
				t.Fatal(err)
			}
			l, _ := u.Scan("", "")
			m, _ := v.Scan("", "")
			if !slices.Equal(l, m) {
				t.Fatalf("%x, not %x", l, m)
			}
		}
	}
	if most < 8 {
		t.Error("the scripts are too tame:", most)
	}
}

// TestNothingWritten: a plan that tells an error has changed nothing, whatever it did ahead of it; and nothing is written ahead of the plan's end.
func TestNothingWritten(t *testing.T) {
	r := rand.New(rand.NewSource(2))
	u := newTree(3000)
	row(t, seq.New(u), toks(count(15)...)...)
	row(t, seq.New(u), toks(20, 21, 22)...)
	for _, want := range []api.Errno{api.ErrArg, api.ErrAbsent, api.ErrThere, api.ErrCorrupt, api.ErrFull, api.ErrHead} {
		for range 20 {
			check := unchanged(t, u)
			if err := draft.Do(u, func(d *draft.Draft) api.Errno {
				for range 10 {
					op, a, b := some(r)
					call(d, op, a, b)
					check()
				}
				return want
			}); err != want {
				t.Fatal(err, want)
			}
			check()
		}
	}
	if l, err := seq.New(u).List(tok(3)); err != api.OK || !slices.Equal(l, toks(count(15)...)) {
		t.Error(l, err)
	}
}

// TestBackAgain: what is as it was at the end is not written.
func TestBackAgain(t *testing.T) {
	u := newTree(400)
	row(t, seq.New(u), toks(1, 2, 3)...)
	row(t, seq.New(u), tok(9))
	check := unchanged(t, u)
	err := draft.Do(u, func(d *draft.Draft) api.Errno {
		a, b, c := d.Remove(tok(9)), d.Make(tok(9)), d.Make(tok(10))
		if ok, err := d.Has(tok(10)); a != api.OK || b != api.OK || c != api.OK || !ok || err != api.OK {
			t.Error(a, b, c, ok, err)
		}
		a, b, c = d.Remove(tok(10)), d.Remove(tok(10)), d.Split(tok(10))
		if ok, err := d.Has(tok(10)); a != api.OK || b != api.ErrAbsent || c != api.ErrAbsent || ok || err != api.OK {
			t.Error(a, b, c, ok, err)
		}
		return api.OK
	})
	check()
	if err != api.OK {
		t.Error(err)
	}
	// Nothing is cut off at the ends, and what was done ahead of that stays done.
	if err := draft.Do(u, func(d *draft.Draft) api.Errno {
		a, b, c := d.Join(tok(3), tok(9)), d.Split(tok(1)), d.SplitAfter(tok(9))
		if a != api.OK || b != api.OK || c != api.OK {
			t.Error(a, b, c)
		}
		return api.OK
	}); err != api.OK {
		t.Error(err)
	}
	if l, err := seq.New(u).List(tok(3)); err != api.OK || !slices.Equal(l, toks(1, 2, 3, 9)) {
		t.Error(l, err)
	}
}

// TestKidAbove: a token that claims the one which is hung above it as its kid is told: in a draft it is not looked at again.
func TestKidAbove(t *testing.T) {
	bytes := func(k api.Token) string {
		return string([]byte{byte(k.A >> 24), byte(k.A >> 16), byte(k.A >> 8), byte(k.A), byte(k.B >> 24), byte(k.B >> 16), byte(k.B >> 8), byte(k.B)})
	}
	const none = "\xff\xff\xff\xff\xff\xff\xff\xff"
	u := newTree(40)
	row(t, seq.New(u), toks(5, 6)...)
	u.Put("N"+bytes(tok(2)), none+bytes(tok(5))+none+"\x00\x00\x00\x02\x02")
	check := unchanged(t, u)
	if err := draft.Do(u, func(d *draft.Draft) api.Errno { return d.Join(tok(2), tok(5)) }); err != api.ErrCorrupt {
		t.Error(err)
	}
	check()
}

// TestDoneWith: behind an error of the tree, wherever a plan meets it, and also where it is met in the writing, the tree is done with.
func TestDoneWith(t *testing.T) {
	f := newFile(400)
	x := alloc.New(f, nil, 2)
	u := cowtree.New(x, 0)
	row(t, seq.New(u), toks(count(30)...)...)
	x.Flush()
	met := 0
	for id := 2; id < x.Pages(); id++ {
		s, _ := f.Disk.Read(id)
		f.Disk.Write(id, s[:20]+"\xff\xff"+s[22:])
		for i := range 30 {
			w := cowtree.New(alloc.New(f, nil, x.Pages()), u.Root())
			was := alloc.New(f, nil, x.Pages())
			err := draft.Do(w, func(d *draft.Draft) api.Errno {
				if err := d.Make(tok(100)); err != api.OK {
					return err
				}
				_, err := d.Rank(tok(i))
				return err
			})
			if err != w.Err() || err != api.OK && err != api.ErrCorrupt {
				t.Fatal(id, i, err, w.Err())
			}
			if err != api.OK {
				met++
			}
			// Who just asks leaves it as it is.
			w = cowtree.New(was, u.Root())
			draft.New(w).Rank(tok(i))
			if w.Err() != api.OK {
				t.Fatal(id, i)
			}
		}
		f.Disk.Write(id, s)
	}
	if met == 0 {
		t.Error("no page was met")
	}
	w := newTree(4)
	err := draft.Do(w, func(d *draft.Draft) api.Errno {
		for i := range 50 {
			if err := d.Make(tok(i)); err != api.OK {
				t.Error(i, err)
			}
		}
		return api.OK
	})
	if err != api.ErrFull || w.Err() != api.ErrFull {
		t.Error(err, w.Err())
	}
}

// TestNoTree: a tree that is nil has no keys, and no page is left for any.
func TestNoTree(t *testing.T) {
	if ok, err := draft.New(nil).Has(tok(1)); ok || err != api.OK {
		t.Error(ok, err)
	}
	if err := draft.Do(nil, func(d *draft.Draft) api.Errno { return d.Make(tok(1)) }); err != api.ErrFull {
		t.Error(err)
	}
}
