package grove_test

import (
	"math/rand"
	"slices"
	"testing"

	"rootstock/alloc"
	"rootstock/api"
	"rootstock/cowtree"
	"rootstock/disk"
	"rootstock/grove"
	"rootstock/pagefile"
	"rootstock/tour"
)

// newFile is a file on a disk of its own.
func newFile(sectors int) *pagefile.File {
	return pagefile.New(disk.New(sectors))
}

// newTree is a tree without keys on a disk of its own.
func newTree(sectors int) *cowtree.Tree {
	return cowtree.New(alloc.New(newFile(sectors), nil, 2), 0)
}

// twigs links so many vertices to a tree in which each vertex has three below it.
func twigs(t *testing.T, u *cowtree.Tree, first, n int) {
	t.Helper()
	for i := 1; i < n; i++ {
		if err := tour.New(u).Link(first+(i-1)/3, first+i); err != api.OK {
			t.Fatal(i, err)
		}
	}
}

// unchanged holds that a tree of keys has all that it had, on the same pages, and is not done with.
func unchanged(t *testing.T, u *cowtree.Tree) func() {
	t.Helper()
	root := u.Root()
	was, _ := u.Scan("", "")
	return func() {
		t.Helper()
		if is, err := u.Scan("", ""); err != api.OK || u.Err() != api.OK || u.Root() != root || !slices.Equal(is, was) {
			t.Fatal("something was changed", err, u.Err())
		}
	}
}

// calls are those that a grove and a tour have both.
type calls interface {
	Link(u, v int) api.Errno
	Cut(u, v int) api.Errno
	Joined(u, v int) (bool, api.Errno)
	Edge(u, v int) (bool, api.Errno)
	Size(v int) (int, api.Errno)
	Rep(v int) (int, api.Errno)
	Members(v int) ([]int, api.Errno)
	Walk(v int) ([]api.Token, api.Errno)
}

// told is all that a call tells.
type told struct {
	err     api.Errno
	yes     bool
	n       int
	members []int
	walk    []api.Token
}

// call does what a number says with two vertices.
func call(c calls, op, u, v int) (x told) {
	switch op % 8 {
	case 0:
		x.err = c.Link(u, v)
	case 1:
		x.err = c.Cut(u, v)
	case 2:
		x.yes, x.err = c.Joined(u, v)
	case 3:
		x.yes, x.err = c.Edge(u, v)
	case 4:
		x.n, x.err = c.Size(u)
	case 5:
		x.n, x.err = c.Rep(u)
	case 6:
		x.members, x.err = c.Members(u)
	case 7:
		x.walk, x.err = c.Walk(u)
	}
	return x
}

// some are calls of a script: who links comes more often, and now and then a number is no vertex.
func some(r *rand.Rand) (op, u, v int) {
	op = r.Intn(20)
	if op > 12 {
		op = 0
	}
	return op, r.Intn(21) - 1, r.Intn(21) - 1
}

// TestAsOneByOne: what many calls in one grove tell and leave is what the same calls tell and leave one by one.
func TestAsOneByOne(t *testing.T) {
	r := rand.New(rand.NewSource(1))
	most, cut := 0, 0
	for range 40 {
		u, v := newTree(3000), newTree(3000)
		f := tour.New(v)
		for range 20 {
			err := grove.Do(u, func(g *grove.Grove) api.Errno {
				for range r.Intn(12) {
					op, a, b := some(r)
					got, want := call(g, op, a, b), call(f, op, a, b)
					if got.err != want.err || got.yes != want.yes || got.n != want.n || !slices.Equal(got.members, want.members) || !slices.Equal(got.walk, want.walk) {
						t.Fatal(op, a, b, got, want)
					}
					most = max(most, len(got.members))
					if op%8 == 1 && got.err == api.OK {
						cut++
					}
				}
				return api.OK
			})
			if err != api.OK {
				t.Fatal(err)
			}
			l, _ := u.Scan("", "")
			m, _ := v.Scan("", "")
			if !slices.Equal(l, m) {
				t.Fatalf("%x, not %x", l, m)
			}
		}
	}
	if most < 12 || cut < 20 {
		t.Error("the scripts are too tame:", most, cut)
	}
}

// TestNothingWritten: a plan that tells an error has changed nothing, whatever it did ahead of it; and nothing is written ahead of the plan's end.
func TestNothingWritten(t *testing.T) {
	r := rand.New(rand.NewSource(2))
	u := newTree(3000)
	twigs(t, u, 0, 12)
	for _, want := range []api.Errno{api.ErrArg, api.ErrAbsent, api.ErrCorrupt, api.ErrFull, api.ErrHead} {
		for range 20 {
			check := unchanged(t, u)
			if err := grove.Do(u, func(g *grove.Grove) api.Errno {
				for range 10 {
					op, a, b := some(r)
					call(g, op, a, b)
					check()
				}
				return want
			}); err != want {
				t.Fatal(err, want)
			}
			check()
		}
	}
	// Nor is there anything to write, where all is as it was.
	check := unchanged(t, u)
	if err := grove.Do(u, func(g *grove.Grove) api.Errno {
		e, h, i := g.Link(50, 51), g.Cut(51, 50), g.Link(1, 2)
		if e != api.OK || h != api.OK || i != api.ErrArg {
			t.Error(e, h, i)
		}
		return api.OK
	}); err != api.OK {
		t.Error(err)
	}
	check()
}

// TestJustAsked: what a grove of who just asks is linked and cut is not written.
func TestJustAsked(t *testing.T) {
	u := newTree(400)
	twigs(t, u, 0, 9)
	check := unchanged(t, u)
	g := grove.New(u)
	if e, h := g.Cut(0, 1), g.Link(1, 70); e != api.OK || h != api.OK {
		t.Fatal(e, h)
	}
	if l, err := g.Members(70); !slices.Equal(l, []int{1, 4, 5, 6, 70}) || err != api.OK {
		t.Error(l, err)
	}
	check()
}

// TestDoneWith: behind an error of the tree, wherever a plan meets it, and also where it is met in the writing, the tree is done with.
func TestDoneWith(t *testing.T) {
	f := newFile(400)
	x := alloc.New(f, nil, 2)
	u := cowtree.New(x, 0)
	twigs(t, u, 0, 20)
	x.Flush()
	met := 0
	for id := 2; id < x.Pages(); id++ {
		s, _ := f.Disk.Read(id)
		f.Disk.Write(id, s[:20]+"\xff\xff"+s[22:])
		for i := range 20 {
			w := cowtree.New(alloc.New(f, nil, x.Pages()), u.Root())
			err := grove.Do(w, func(g *grove.Grove) api.Errno {
				if err := g.Link(100, 101); err != api.OK {
					return err
				}
				_, err := g.Size(i)
				return err
			})
			if err != w.Err() || err != api.OK && err != api.ErrCorrupt {
				t.Fatal(id, i, err, w.Err())
			}
			if err != api.OK {
				met++
			}
			// Who just asks leaves it as it is.
			w = cowtree.New(alloc.New(f, nil, x.Pages()), u.Root())
			grove.New(w).Members(i)
			if w.Err() != api.OK {
				t.Fatal(id, i)
			}
		}
		f.Disk.Write(id, s)
	}
	if met == 0 {
		t.Error("no page was met")
	}
	w := newTree(4)
	err := grove.Do(w, func(g *grove.Grove) api.Errno {
		for i := range 50 {
			if err := g.Link(i, i+1); err != api.OK {
				t.Error(i, err)
			}
		}
		return api.OK
	})
	if err != api.ErrFull || w.Err() != api.ErrFull {
		t.Error(err, w.Err())
	}
}

// TestNoTree: a tree that is nil has no keys, and no page is left for any.
func TestNoTree(t *testing.T) {
	if ok, err := grove.New(nil).Edge(1, 2); ok || err != api.OK {
		t.Error(ok, err)
	}
	if err := grove.Do(nil, func(g *grove.Grove) api.Errno { return g.Link(1, 2) }); err != api.ErrFull {
		t.Error(err)
	}
}
