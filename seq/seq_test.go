package seq

import (
	"math"
	"slices"
	"testing"

	"rootstock/alloc"
	"rootstock/api"
	"rootstock/cowtree"
)

func TestExamples(t *testing.T) {
	u := newTree(40)
	s := New(u)
	a, b, c := api.Token{A: 1, B: 1}, api.Token{A: 1, B: 2}, api.Token{A: 2, B: 1}
	for _, k := range []api.Token{a, b, c} {
		if err := s.Make(k); err != api.OK {
			t.Fatal(k, err)
		}
	}
	if e, f := s.Join(a, b), s.Join(a, c); e != api.OK || f != api.OK {
		t.Fatal(e, f)
	}
	if l, err := s.List(a); err != api.OK || !slices.Equal(l, []api.Token{a, b, c}) {
		t.Error(l, err)
	}
	if r, err := s.Rank(c); r != 2 || err != api.OK {
		t.Error(r, err)
	}
	if err := s.Split(b); err != api.OK {
		t.Fatal(err)
	}
	if l, err := s.List(c); err != api.OK || !slices.Equal(l, []api.Token{b, c}) {
		t.Error(l, err)
	}
	checkKept(t, u, [][]api.Token{{a}, {b, c}})
}

// TestBytes: what a tree of keys has of three tokens in a row, byte by byte.
func TestBytes(t *testing.T) {
	u := newTree(40)
	a, b, c := api.Token{A: 0, B: 1048575}, api.Token{A: 258, B: 3}, api.Token{A: 1048575, B: 0}
	row(t, New(u), a, b, c)
	none := "\xff\xff\xff\xff\xff\xff\xff\xff"
	keyA, keyB, keyC := "\x00\x00\x00\x00\x00\x0f\xff\xff", "\x00\x00\x01\x02\x00\x00\x00\x03", "\x00\x0f\xff\xff\x00\x00\x00\x00"
	want := []api.Entry{
		{Key: "N" + keyA, Value: keyB + none + none + "\x00\x00\x00\x01\x01"},
		{Key: "N" + keyB, Value: none + keyA + keyC + "\x00\x00\x00\x03\x02"},
		{Key: "N" + keyC, Value: keyB + none + none + "\x00\x00\x00\x01\x01"},
	}
	if l, err := u.Scan("", ""); err != api.OK || !slices.Equal(l, want) {
		t.Errorf("%x, %v", l, err)
	}
}

// TestByHand: sequences that somebody else has put into the tree of keys are read, and gone on from.
func TestByHand(t *testing.T) {
	u := newTree(40)
	none := noneBytes
	key := func(i int) string { return string(bytesOf(api.Token{A: i, B: i})) }
	u.Put("N"+key(5), none+key(9)+key(2)+"\x00\x00\x00\x04\x03")
	u.Put("N"+key(9), key(5)+none+none+"\x00\x00\x00\x01\x01")
	u.Put("N"+key(2), key(5)+none+key(0)+"\x00\x00\x00\x02\x02")
	u.Put("N"+key(0), key(2)+none+none+"\x00\x00\x00\x01\x01")
	s := New(u)
	k := func(i int) api.Token { return api.Token{A: i, B: i} }
	l := []api.Token{k(9), k(5), k(2), k(0)}
	checkAsked(t, s, [][]api.Token{l}, 2)
	if h, err := s.Height(k(0)); h != 3 || err != api.OK {
		t.Error(h, err)
	}
	if err := s.SplitAfter(k(5)); err != api.OK {
		t.Fatal(err)
	}
	checkKept(t, u, [][]api.Token{l[:2], l[2:]})
}

// asks are all calls with one token, that change nothing, with whether all they told was noughts.
func asks(s *Seq, k api.Token) map[string]func() (bool, api.Errno) {
	return map[string]func() (bool, api.Errno){
		"Has":    func() (bool, api.Errno) { v, err := s.Has(k); return !v, err },
		"Root":   func() (bool, api.Errno) { v, err := s.Root(k); return v == api.Token{}, err },
		"Same":   func() (bool, api.Errno) { v, err := s.Same(k, k); return !v, err },
		"Count":  func() (bool, api.Errno) { v, err := s.Count(k); return v == 0, err },
		"Height": func() (bool, api.Errno) { v, err := s.Height(k); return v == 0, err },
		"Rank":   func() (bool, api.Errno) { v, err := s.Rank(k); return v == 0, err },
		"At":     func() (bool, api.Errno) { v, err := s.At(k, 0); return v == api.Token{}, err },
		"List":   func() (bool, api.Errno) { v, err := s.List(k); return len(v) == 0, err },
	}
}

// changes are all calls that change something.
func changes(s *Seq, k, with api.Token) map[string]func() api.Errno {
	return map[string]func() api.Errno{
		"Make":       func() api.Errno { return s.Make(k) },
		"Remove":     func() api.Errno { return s.Remove(k) },
		"Join":       func() api.Errno { return s.Join(k, with) },
		"JoinTo":     func() api.Errno { return s.Join(with, k) },
		"Split":      func() api.Errno { return s.Split(k) },
		"SplitAfter": func() api.Errno { return s.SplitAfter(k) },
	}
}

// refused holds that all calls of a token tell an error, and noughts; those named are left out.
func refused(t *testing.T, s *Seq, k, with api.Token, want api.Errno, but ...string) {
	t.Helper()
	for name, ask := range asks(s, k) {
		if slices.Contains(but, name) {
			continue
		}
		if noughts, err := ask(); err != want || !noughts {
			t.Errorf("%s(%v): %v, %v, not %v", name, k, noughts, err, want)
		}
	}
	for name, change := range changes(s, k, with) {
		if slices.Contains(but, name) {
			continue
		}
		if err := change(); err != want {
			t.Errorf("%s(%v): %v, not %v", name, k, err, want)
		}
	}
}

func TestNoToken(t *testing.T) {
	u := newTree(40)
	s := New(u)
	row(t, s, toks(1, 2, 3)...)
	root := u.Root()
	for _, n := range []int{-1, 1 << 20, 1<<20 + 1, 1<<32 - 1, 1 << 32, math.MinInt, math.MaxInt} {
		for _, k := range []api.Token{{A: n, B: 5}, {A: 5, B: n}, {A: n, B: n}} {
			refused(t, s, k, tok(1), api.ErrVertex)
			// Ahead of all else: of what the other token is, and of what place is asked.
			refused(t, s, k, tok(77), api.ErrVertex)
			refused(t, s, k, k, api.ErrVertex)
			if same, err := s.Same(tok(77), k); same || err != api.ErrVertex {
				t.Error(k, same, err)
			}
			if at, err := s.At(k, -1); at != (api.Token{}) || err != api.ErrVertex {
				t.Error(k, at, err)
			}
		}
	}
	if u.Root() != root {
		t.Error("something was changed")
	}
	checkKept(t, u, [][]api.Token{toks(1, 2, 3)})
}

func TestLeastAndGreatestTokens(t *testing.T) {
	u := newTree(40)
	s := New(u)
	const last = api.MaxVertex - 1
	l := []api.Token{{A: 0, B: 0}, {A: last, B: last}, {A: 0, B: last}, {A: last, B: 0}}
	for _, k := range l {
		refused(t, s, k, k, api.ErrAbsent, "Has", "Make")
		if ok, err := s.Has(k); ok || err != api.OK {
			t.Error(k, ok, err)
		}
	}
	checkKept(t, u, [][]api.Token{})
	row(t, s, l...)
	checkKept(t, u, [][]api.Token{l})
	checkAsked(t, s, [][]api.Token{l}, 0)
}

func TestAbsent(t *testing.T) {
	u := newTree(40)
	s := New(u)
	row(t, s, toks(1, 2, 3)...)
	root := u.Root()
	refused(t, s, tok(4), tok(1), api.ErrAbsent, "Has", "Make")
	if ok, err := s.Has(tok(4)); ok || err != api.OK {
		t.Error(ok, err)
	}
	for _, pair := range [][]api.Token{toks(4, 1), toks(1, 4), toks(4, 4), toks(4, 5)} {
		if same, err := s.Same(pair[0], pair[1]); same || err != api.ErrAbsent {
			t.Error(pair, same, err)
		}
		if err := s.Join(pair[0], pair[1]); err != api.ErrAbsent {
			t.Error(pair, err)
		}
	}
	// That there is no such token comes ahead of what place is asked.
	if at, err := s.At(tok(4), -1); at != (api.Token{}) || err != api.ErrAbsent {
		t.Error(at, err)
	}
	// The token whose numbers are the other way round is another one.
	k := tok(2)
	if ok, err := s.Has(api.Token{A: k.B, B: k.A}); ok || err != api.OK {
		t.Error(ok, err)
	}
	if u.Root() != root {
		t.Error("something was changed")
	}
	checkKept(t, u, [][]api.Token{toks(1, 2, 3)})
}

// TestFirstFirst: of two tokens it is the first one of which is told what is wrong.
func TestFirstFirst(t *testing.T) {
	u := newTree(40)
	s := New(u)
	row(t, s, tok(1))
	bad := tok(2)
	u.Put("N"+string(bytesOf(bad)), "short")
	for _, c := range []struct {
		a, b api.Token
		want api.Errno
	}{{tok(3), bad, api.ErrAbsent}, {bad, tok(3), api.ErrCorrupt}, {tok(1), bad, api.ErrCorrupt}, {bad, tok(1), api.ErrCorrupt}, {bad, bad, api.ErrCorrupt}} {
		if same, err := s.Same(c.a, c.b); same || err != c.want {
			t.Error(c, same, err)
		}
		if err := s.Join(c.a, c.b); err != c.want {
			t.Error(c, err)
		}
	}
}

func TestThereAndArg(t *testing.T) {
	u := newTree(40)
	s := New(u)
	l := toks(1, 2, 3, 4, 5)
	row(t, s, l...)
	row(t, s, tok(6))
	root := u.Root()
	for _, k := range l {
		if err := s.Make(k); err != api.ErrThere {
			t.Error(k, err)
		}
		if err := s.Remove(k); err != api.ErrArg {
			t.Error(k, err)
		}
		for _, with := range l {
			if err := s.Join(k, with); err != api.ErrArg {
				t.Error(k, with, err)
			}
		}
		for _, i := range []int{-1, 5, math.MinInt, math.MaxInt} {
			if at, err := s.At(k, i); at != (api.Token{}) || err != api.ErrArg {
				t.Error(k, i, at, err)
			}
		}
	}
	if err := s.Join(tok(6), tok(6)); err != api.ErrArg {
		t.Error(err)
	}
	if u.Root() != root {
		t.Error("something was changed")
	}
	checkKept(t, u, [][]api.Token{l, toks(6)})
	if e, f := s.Remove(tok(6)), s.Remove(tok(6)); e != api.OK || f != api.ErrAbsent {
		t.Error(e, f)
	}
	checkKept(t, u, [][]api.Token{l})
	if err := s.Make(tok(6)); err != api.OK {
		t.Error(err)
	}
	checkKept(t, u, [][]api.Token{l, toks(6)})
}

// TestNothingHappens: ahead of the first token, and behind the last one, nothing is cut, and no page is taken.
func TestNothingHappens(t *testing.T) {
	for n := range 40 {
		f := newFile(400)
		x := alloc.New(f, nil, 2)
		u := cowtree.New(x, 0)
		l := toks(count(n + 1)...)
		row(t, New(u), l...)
		x.Flush()
		y := alloc.New(f, nil, x.Pages())
		v := cowtree.New(y, u.Root())
		s := New(v)
		top, _ := s.Root(l[0])
		if e, f := s.Split(l[0]), s.SplitAfter(l[n]); e != api.OK || f != api.OK {
			t.Fatal(n, e, f)
		}
		if v.Root() != u.Root() || y.Pages() != x.Pages() || len(y.Taken()) != 0 {
			t.Error(n, v.Root(), u.Root(), y.Taken())
		}
		if is, err := s.Root(l[n]); is != top || err != api.OK {
			t.Error(n, is, top, err)
		}
		checkKept(t, v, [][]api.Token{l})
	}
}

// TestEverySplit: sequences of any length, cut at each place, both ways, and joined again, both ways.
func TestEverySplit(t *testing.T) {
	for n := 1; n <= 40; n++ {
		u := newTree(600)
		s := New(u)
		l := toks(count(n)...)
		row(t, s, l...)
		for i := range n {
			if err := s.Split(l[i]); err != api.OK {
				t.Fatal(n, i, err)
			}
			parts := [][]api.Token{l}
			if i > 0 {
				parts = [][]api.Token{l[:i], l[i:]}
			}
			checkKept(t, u, parts)
			if i > 0 {
				s.Join(l[0], l[i])
			}
			checkKept(t, u, [][]api.Token{l})
			if err := s.SplitAfter(l[i]); err != api.OK {
				t.Fatal(n, i, err)
			}
			if i == n-1 {
				continue
			}
			checkKept(t, u, [][]api.Token{l[:i+1], l[i+1:]})
			// The tours of the layer above are turned so.
			s.Join(l[n-1], l[0])
			l = slices.Concat(l[i+1:], l[:i+1])
			checkKept(t, u, [][]api.Token{l})
		}
	}
}

// TestEveryJoin: sequences of any two lengths.
func TestEveryJoin(t *testing.T) {
	for n := 1; n <= 34; n += 3 {
		for m := 1; m <= 34; m++ {
			u := newTree(600)
			s := New(u)
			all := toks(count(n + m)...)
			row(t, s, all[:n]...)
			row(t, s, all[n:]...)
			if err := s.Join(all[n/2], all[n+m/2]); err != api.OK {
				t.Fatal(n, m, err)
			}
			checkKept(t, u, [][]api.Token{all})
		}
	}
}

// TestTall: a sequence that grows at one end, at the other one, or by doubling, stays low.
func TestTall(t *testing.T) {
	const n = 1000
	l := toks(count(n)...)
	for name, grow := range map[string]func(s *Seq, i int){
		"behind":  func(s *Seq, i int) { s.Join(l[0], l[i]) },
		"ahead":   func(s *Seq, i int) { s.Join(l[i], l[0]) },
		"doubled": func(s *Seq, i int) { s.Join(l[i-1-(i-1)%(i&-i)], l[i]) },
	} {
		u := newTree(8000)
		s := New(u)
		for _, k := range l {
			s.Make(k)
		}
		for i := 1; i < n; i++ {
			grow(s, i)
		}
		for i := 1; i < n; i++ {
			s.Join(l[0], l[i])
		}
		all, err := s.List(l[0])
		if err != api.OK || len(all) != n {
			t.Fatal(name, len(all), err)
		}
		checkKept(t, u, [][]api.Token{all})
		if h, err := s.Height(l[1]); h > 14 || err != api.OK {
			t.Error(name, h, err)
		}
		for i := 0; i < n; i += 37 {
			checkAsked(t, s, [][]api.Token{all}, i)
		}
	}
}

// TestOtherKeys: what else the tree of keys has is not touched, whatever begins with the same byte.
func TestOtherKeys(t *testing.T) {
	u := newTree(400)
	others := []api.Entry{
		{Key: "A1", Value: "t"}, {Key: "M\xff\xff\xff\xff\xff\xff\xff\xff", Value: "m"}, {Key: "N", Value: "n"},
		{Key: "N\x00\x00\x00\x01\x00\x00\x00", Value: "shorter"}, {Key: "N\x00\x00\x00\x01\x00\x00\x00\x01\x00", Value: "longer"},
		{Key: "N\x00\x10\x00\x00\x00\x00\x00\x01", Value: "no token"}, {Key: "N" + noneBytes, Value: "none"}, {Key: "O", Value: ""},
	}
	for _, e := range others {
		if err := u.Put(e.Key, e.Value); err != api.OK {
			t.Fatal(e, err)
		}
	}
	s := New(u)
	l := append(toks(count(30)...), api.Token{A: 1, B: 1}, api.Token{A: 1, B: 0})
	row(t, s, l...)
	s.Split(l[10])
	s.Join(l[20], l[0])
	checkAsked(t, s, [][]api.Token{slices.Concat(l[10:], l[:10])}, 3)
	for _, k := range l {
		s.Split(k)
		s.SplitAfter(k)
	}
	for _, k := range l {
		if err := s.Remove(k); err != api.OK {
			t.Fatal(k, err)
		}
	}
	if got, err := u.Scan("", ""); err != api.OK || !slices.Equal(got, others) {
		t.Error(got, err)
	}
}

// TestNewOfNil: nil counts as a tree of a change of no file: no page is left for any token.
func TestNewOfNil(t *testing.T) {
	for name, s := range map[string]*Seq{"nil": New(nil), "zero": {}, "nil tree": New((*cowtree.Tree)(nil))} {
		refused(t, s, tok(1), tok(2), api.ErrAbsent, "Has", "Make")
		if ok, err := s.Has(tok(1)); ok || err != api.OK {
			t.Error(name, ok, err)
		}
		if err := s.Make(tok(1)); err != api.ErrFull {
			t.Error(name, err)
		}
		// By that the tree is done with.
		refused(t, s, tok(1), tok(2), api.ErrFull)
		if err := s.Make(api.Token{A: -1}); err != api.ErrVertex {
			t.Error(name, err)
		}
	}
	var s *Seq
	refused(t, s, tok(1), tok(2), api.ErrAbsent, "Has", "Make")
	if ok, err := s.Has(tok(1)); ok || err != api.OK {
		t.Error(ok, err)
	}
	if err := s.Make(tok(1)); err != api.ErrFull {
		t.Error(err)
	}
}

// TestTwoOfOneTree: nothing is kept but in the tree of keys.
func TestTwoOfOneTree(t *testing.T) {
	u := newTree(400)
	s, z := New(u), New(u)
	row(t, s, toks(1, 2, 3, 4)...)
	checkAsked(t, z, [][]api.Token{toks(1, 2, 3, 4)}, 1)
	z.Split(tok(3))
	checkAsked(t, s, [][]api.Token{toks(1, 2), toks(3, 4)}, 1)
	s.Join(tok(3), tok(1))
	checkAsked(t, z, [][]api.Token{toks(3, 4, 1, 2)}, 1)
	// Another tree knows nothing of them.
	if ok, err := New(newTree(40)).Has(tok(1)); ok || err != api.OK {
		t.Error(ok, err)
	}
}

// TestListIsNew: what was answered shares nothing with what is kept.
func TestListIsNew(t *testing.T) {
	s := New(newTree(40))
	row(t, s, toks(1, 2, 3)...)
	l, _ := s.List(tok(1))
	l[0] = tok(9)
	checkAsked(t, s, [][]api.Token{toks(1, 2, 3)}, 0)
}

// TestOldRoots: what a root stood for that was flushed is still there, whatever was done from it on.
func TestOldRoots(t *testing.T) {
	f := newFile(2000)
	x := alloc.New(f, nil, 2)
	u := cowtree.New(x, 0)
	l := toks(count(60)...)
	row(t, New(u), l...)
	x.Flush()
	y := alloc.New(f, nil, x.Pages())
	v := cowtree.New(y, u.Root())
	s := New(v)
	s.Split(l[30])
	s.Join(l[30], l[0])
	y.Flush()
	z := alloc.New(f, nil, y.Pages())
	checkKept(t, cowtree.New(z, u.Root()), [][]api.Token{l})
	checkKept(t, cowtree.New(z, v.Root()), [][]api.Token{slices.Concat(l[30:], l[:30])})
}

// TestFewReads: who asks for a root reads just the way up, and not the whole sequence.
func TestFewReads(t *testing.T) {
	f := newFile(4000)
	x := alloc.New(f, nil, 2)
	u := cowtree.New(x, 0)
	l := toks(count(1000)...)
	row(t, New(u), l...)
	x.Flush()
	pages, _ := u.Walk()
	deep := 0
	for _, p := range pages {
		deep = max(deep, p.Depth+1)
	}
	s := New(cowtree.New(alloc.New(f, nil, x.Pages()), u.Root()))
	h, _ := s.Height(l[0])
	for _, k := range l[:100] {
		was := f.Disk.Reads()
		s.Root(k)
		// A page that is no leaf is read once more, as an inner one.
		if n := f.Disk.Reads() - was; n > 2*deep*h {
			t.Fatal(k, n, deep, h)
		}
		was = f.Disk.Reads()
		s.Split(k)
		if n := f.Disk.Reads() - was; n > 20*deep*h {
			t.Fatal(k, n, deep, h)
		}
		s.Join(l[0], k)
	}
}
