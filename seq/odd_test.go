package seq

import (
	"fmt"
	"math/rand"
	"slices"
	"strings"
	"testing"

	"rootstock/alloc"
	"rootstock/api"
	"rootstock/cowtree"
	"rootstock/pagefile"
)

// text is a value's bytes; a place below 0 is none.
func text(up, left, right, count, height int) string {
	var b []byte
	for _, i := range []int{up, left, right} {
		if i < 0 {
			b = append(b, noneBytes...)
		} else {
			b = append(b, bytesOf(tok(i))...)
		}
	}
	return string(append(b, byte(count>>24), byte(count>>16), byte(count>>8), byte(count), byte(height)))
}

func keyText(i int) string {
	return "N" + string(bytesOf(tok(i)))
}

// lay is a tree of keys with the values of the tokens from 0 on.
func lay(t *testing.T, values ...string) *cowtree.Tree {
	t.Helper()
	u := newTree(4 * (len(values) + 10))
	for i, v := range values {
		if err := u.Put(keyText(i), v); err != api.OK {
			t.Fatal(i, err)
		}
	}
	return u
}

// unchanged is all that a tree has, and a function that holds it against that: what tells an error has changed nothing, and a value that is not as told is no error of the tree.
func unchanged(t *testing.T, u *cowtree.Tree) func(what string) {
	t.Helper()
	was, _ := u.Scan("", "")
	return func(what string) {
		t.Helper()
		is, err := u.Scan("", "")
		if err != api.OK || u.Err() != api.OK || !slices.Equal(is, was) {
			t.Error(what, "changed it", err)
		}
	}
}

// TestNoValue: bytes that are no value of a token that there is.
func TestNoValue(t *testing.T) {
	alone := text(-1, -1, -1, 1, 1)
	tie := func(at int, bytes string) string { return alone[:8*at] + bytes + alone[8*at+8:] }
	values := []string{
		"", "short", alone[:28], alone + "\x00", alone[1:], strings.Repeat("\x00", 29), strings.Repeat("\xff", 29), strings.Repeat("\x00", 40),
		text(-1, -1, -1, 0, 1), text(-1, -1, -1, 2, 1), text(-1, -1, -1, 1<<32-1, 1), text(-1, -1, -1, 1, 0), text(-1, -1, -1, 1, 2), text(-1, -1, -1, 1, 255), text(-1, -1, -1, 0, 0),
		text(-1, -1, -1, 2, 2), text(-1, 1, -1, 1, 1), text(-1, 1, 2, 2, 2), text(-1, 1, -1, 3, 2), text(-1, -1, 1, 4, 3),
		text(-1, 1, 2, 3, 3), text(-1, 1, 2, 4, 2), text(-1, 1, 2, 8, 3), text(-1, 1, 2, 6, 4), text(-1, 1, 2, 11, 5), text(-1, 1, 2, 1<<32-1, 46), text(-1, 1, 2, 1<<32-1, 31), text(-1, 1, 2, 1<<32-1, 64), text(-1, 1, 2, 1<<32-1, 255),
		text(0, -1, -1, 1, 1), text(-1, 0, -1, 2, 2), text(-1, 0, 1, 3, 2), text(-1, 1, 0, 3, 2), text(-1, 1, 1, 3, 2), text(1, 1, -1, 2, 2), text(1, 2, 1, 3, 2),
	}
	for at := range 3 {
		for _, bytes := range []string{"\x00\x10\x00\x00\x00\x00\x00\x01", "\x00\x00\x00\x01\x00\x10\x00\x00", "\xff\xff\xff\xff\x00\x00\x00\x01", "\x00\x00\x00\x01\xff\xff\xff\xff", "\xff\xff\xff\xff\xff\xff\xff\xfe"} {
			values = append(values, tie(at, bytes))
		}
	}
	for _, v := range values {
		u := lay(t, v, text(-1, -1, -1, 1, 1))
		check := unchanged(t, u)
		refused(t, New(u), tok(0), tok(1), api.ErrCorrupt)
		check(fmt.Sprintf("%x", v))
	}
}

// TestNotTied: values that do not fit together, where one is met on the way.
func TestNotTied(t *testing.T) {
	for name, values := range map[string][]string{
		"nobody above":            {text(9, -1, -1, 1, 1)},
		"not its kid":             {text(1, -1, -1, 1, 1), text(-1, -1, -1, 1, 1)},
		"the kid of another":      {text(1, -1, -1, 1, 1), text(-1, -1, 2, 2, 2), text(1, -1, -1, 1, 1)},
		"a round of two":          {text(1, -1, 2, 2, 2), text(0, 0, 3, 4, 3)},
		"each above the other":    {text(1, -1, -1, 1, 1), text(0, -1, -1, 1, 1)},
		"a kid too low":           {text(1, -1, -1, 1, 1), text(-1, 0, 2, 8, 4), text(1, 3, 4, 6, 3)},
		"a kid as tall":           {text(1, 2, 3, 3, 2), text(-1, 0, -1, 2, 2), text(0, -1, -1, 1, 1), text(0, -1, -1, 1, 1)},
		"too many on its side":    {text(1, 2, 3, 7, 3), text(-1, 0, 4, 7, 4)},
		"too few on the other":    {text(1, 2, 3, 6, 3), text(-1, 4, 0, 7, 4)},
		"too many for its height": {text(1, -1, -1, 1, 1), text(-1, 0, 2, 6, 3)},
		"too many on the other":   {text(1, 2, 3, 4, 3), text(-1, 0, 4, 14, 4)},
		"a bad value above":       {text(1, -1, -1, 1, 1), "short"},
		"a bad value high up":     {text(1, -1, -1, 1, 1), text(2, 0, -1, 2, 2), text(3, 1, 4, 4, 3), text(-1, 2, 9, 12, 3)},
	} {
		u := lay(t, values...)
		check := unchanged(t, u)
		refused(t, New(u), tok(0), tok(len(values)-1), api.ErrCorrupt, "Has", "Make", "Join", "JoinTo")
		if ok, err := New(u).Has(tok(0)); !ok || err != api.OK {
			t.Error(name, ok, err)
		}
		if err := New(u).Make(tok(0)); err != api.ErrThere {
			t.Error(name, err)
		}
		check(name)
	}
}

// TestNotFitting: a root whose kids are not as it says: who goes down tells so.
func TestNotFitting(t *testing.T) {
	leaf, odd := text(0, -1, -1, 1, 1), text(9, -1, -1, 1, 1)
	for name, values := range map[string][]string{
		"no left":                 {text(-1, 1, -1, 2, 2)},
		"no right":                {text(-1, -1, 1, 2, 2)},
		"left is another's":       {text(-1, 1, 2, 3, 2), odd, leaf},
		"right is another's":      {text(-1, 1, 2, 3, 2), leaf, odd},
		"left is a root":          {text(-1, 1, 2, 3, 2), text(-1, -1, -1, 1, 1), leaf},
		"fewer than it says":      {text(-1, 1, 2, 5, 3), text(0, 3, -1, 2, 2), leaf, text(1, -1, -1, 1, 1)},
		"more than it says":       {text(-1, 1, 2, 4, 3), text(0, 3, -1, 2, 2), text(0, -1, 4, 2, 2), text(1, -1, -1, 1, 1), text(2, -1, -1, 1, 1)},
		"lower than it says":      {text(-1, 1, 2, 7, 4), text(0, 3, 4, 3, 2), text(0, 5, 6, 3, 2)},
		"taller than it says":     {text(-1, 1, 2, 7, 3), text(0, 3, 4, 4, 3), text(0, 5, -1, 2, 2)},
		"a side taller by two":    {text(-1, 1, 2, 7, 4), text(0, 3, 4, 5, 3), leaf},
		"a bad value to the left": {text(-1, 1, 2, 3, 2), "short", leaf},
	} {
		u := lay(t, values...)
		s := New(u)
		row(t, s, tok(50))
		check := unchanged(t, u)
		refused(t, s, tok(0), tok(50), api.ErrCorrupt, "Has", "Make", "Root", "Same", "Count", "Height", "At", "Remove")
		if at, err := s.At(tok(0), 1); at != (api.Token{}) || err != api.ErrCorrupt {
			t.Error(name, at, err)
		}
		check(name)
	}
}

// TestTooMany: trees that say of themselves that they have thousands of millions of tokens, of which just those at their ends are there, are not joined: so many are not told by four bytes.
func TestTooMany(t *testing.T) {
	const tall = 45
	// The first tree has the tokens 0, 1, .. to its right end, from the top, and others beside them; the second one, to its left end, those from 100 on.
	var values [400]string
	lean := func(from, near, far int) {
		for h := tall; h > 0; h-- {
			k := from + tall - h
			ties := [4]int{k - 1, 0, 0, 0}
			if h == tall {
				ties[0] = -1
			}
			ties[near], ties[far] = k+1, k+200
			switch h {
			case 1:
				ties[near], ties[far] = -1, -1
			case 2:
				ties[far] = -1
			default:
				values[k+200] = text(k, 350+h%2, 360+h%2, fewest(h-2), h-2)
			}
			if h == 3 {
				values[k+200] = text(k, -1, -1, 1, 1)
			}
			if h == 4 {
				values[k+200] = text(k, 351, -1, 2, 2)
			}
			values[k] = text(ties[0], ties[1], ties[2], fewest(h), h)
		}
	}
	lean(0, 2, 1)
	lean(100, 1, 2)
	for i, v := range values {
		if v == "" {
			values[i] = "unused"
		}
	}
	u := lay(t, values[:]...)
	s := New(u)
	for _, k := range []int{0, 44, 100, 144} {
		if c, err := s.Count(tok(k)); c != fewest(tall) || err != api.OK {
			t.Fatal(k, c, err)
		}
		if h, err := s.Height(tok(k)); h != tall || err != api.OK {
			t.Fatal(k, h, err)
		}
	}
	if r, err := s.Rank(tok(44)); r != fewest(tall)-1 || err != api.OK {
		t.Error(r, err)
	}
	if k, err := s.At(tok(0), fewest(tall)-1); k != tok(44) || err != api.OK {
		t.Error(k, err)
	}
	check := unchanged(t, u)
	if err := s.Join(tok(0), tok(100)); err != api.ErrCorrupt {
		t.Error(err)
	}
	check("Join")
	// A token less, and it is told as it should be.
	if err := s.Split(tok(44)); err != api.OK {
		t.Error(err)
	}
	if c, err := s.Count(tok(43)); c != fewest(tall)-1 || err != api.OK {
		t.Error(c, err)
	}
}

// TestTooManyFull: so it is with trees that are full, whose heights would be told.
func TestTooManyFull(t *testing.T) {
	const tall = 32
	// Of each tree the tokens at one end are there, from the top, and of the others beside them what is read to join them.
	var values [2 * tall * 2]string
	lean := func(from, near, far int) {
		for h := tall; h > 0; h-- {
			k := from + tall - h
			ties := [3]int{k - 1, -1, -1}
			if h == tall {
				ties[0] = -1
			}
			values[k+tall] = text(k, 200, 201, 1<<(h-1)-1, h-1)
			if h > 1 {
				ties[near], ties[far] = k+1, k+tall
			}
			if h == 2 {
				values[k+tall] = text(k, -1, -1, 1, 1)
			}
			values[k] = text(ties[0], ties[1], ties[2], 1<<h-1, h)
		}
	}
	lean(0, 2, 1)
	lean(2*tall, 1, 2)
	u := lay(t, values[:]...)
	s := New(u)
	for _, k := range []int{tall - 1, 3*tall - 1} {
		if c, err := s.Count(tok(k)); c != 1<<32-1 || err != api.OK {
			t.Fatal(k, c, err)
		}
	}
	check := unchanged(t, u)
	if err := s.Join(tok(0), tok(2*tall)); err != api.ErrCorrupt {
		t.Error(err)
	}
	check("Join")
}

// TestNotFittingAbove: a change sees to the families on its way up, too: what is beside it goes with it.
func TestNotFittingAbove(t *testing.T) {
	for name, values := range map[string][]string{
		"the other one is another's": {text(1, -1, -1, 1, 1), text(-1, 0, 2, 3, 2), text(9, -1, -1, 1, 1)},
		"the other one is a root":    {text(1, -1, -1, 1, 1), text(-1, 2, 0, 3, 2), text(-1, -1, -1, 1, 1)},
		"the other one has more":     {text(1, -1, -1, 1, 1), text(-1, 2, 0, 4, 3), text(1, 3, 4, 3, 2)},
		"there is no other one":      {text(1, -1, -1, 1, 1), text(-1, 2, 0, 4, 3)},
		"higher up":                  {text(1, -1, -1, 1, 1), text(2, 0, -1, 2, 2), text(-1, 1, 3, 4, 3), text(0, -1, -1, 1, 1)},
	} {
		u := lay(t, values...)
		s := New(u)
		check := unchanged(t, u)
		if e, f := s.Split(tok(0)), s.SplitAfter(tok(0)); e != api.ErrCorrupt || f != api.ErrCorrupt {
			t.Error(name, e, f)
		}
		check(name)
	}
}

// bitsOf are other values than one: each of its bits is another one in one of them; and each of its tokens is another one, or none.
func bitsOf(v string, tokens ...string) []string {
	var l []string
	for i := range v {
		for bit := range 8 {
			b := []byte(v)
			b[i] ^= 1 << bit
			l = append(l, string(b))
		}
	}
	for at := range 3 {
		for _, k := range append(tokens, noneBytes) {
			if w := v[:8*at] + k + v[8*at+8:]; w != v {
				l = append(l, w)
			}
		}
	}
	return l
}

// TestHarmedValues: whichever value is another one, all calls end, and whoever tells an error has changed nothing; a list that is told is what the values say.
func TestHarmedValues(t *testing.T) {
	l := toks(count(9)...)
	u := newTree(60)
	row(t, New(u), l...)
	row(t, New(u), tok(20))
	var tokens []string
	for _, k := range l {
		tokens = append(tokens, string(bytesOf(k)))
	}
	all, _ := u.Scan("N", "O")
	for _, e := range all {
		for _, v := range bitsOf(e.Value, tokens...) {
			u.Put(e.Key, v)
			bad := 0
			for _, k := range l {
				got, err := New(u).List(k)
				switch {
				case err == api.ErrCorrupt:
					bad++
				case err != api.OK:
					t.Fatalf("%x: %x: %v", e.Key, v, err)
				case e.Key != keyText(20) && len(got) >= len(l):
					t.Fatalf("%x: %x: %v", e.Key, v, got)
				}
				for _, ask := range asks(New(u), k) {
					if noughts, err := ask(); err != api.OK && (err != api.ErrCorrupt || !noughts) {
						t.Fatalf("%x: %x: %v", e.Key, v, err)
					}
				}
			}
			// What goes to pieces may be whole for those who are cut off.
			if bad == 0 && e.Key != keyText(20) {
				t.Fatalf("%x: %x: nobody saw it", e.Key, v)
			}
			u.Put(e.Key, e.Value)
		}
	}
	checkKept(t, u, [][]api.Token{l, toks(20)})
}

// TestChangesOfHarmedValues: so it is with calls that change something.
func TestChangesOfHarmedValues(t *testing.T) {
	f := newFile(200)
	x := alloc.New(f, nil, 2)
	u := cowtree.New(x, 0)
	l := toks(count(9)...)
	row(t, New(u), l...)
	row(t, New(u), tok(20))
	x.Flush()
	all, _ := u.Scan("N", "O")
	var bad, fine int
	for _, e := range all {
		for i, v := range bitsOf(e.Value, keyText(3)[1:], keyText(8)[1:]) {
			harmed := cowtree.New(alloc.New(f, nil, x.Pages()), u.Root())
			harmed.Put(e.Key, v)
			check := unchanged(t, harmed)
			k := l[i%len(l)]
			for name, change := range changes(New(harmed), k, tok(20)) {
				switch err := change(); err {
				case api.OK:
					fine++
					check = unchanged(t, harmed)
				case api.ErrCorrupt:
					bad++
					check(fmt.Sprintf("%s: %x: %x", name, e.Key, v))
				case api.ErrArg, api.ErrThere, api.ErrAbsent:
				default:
					t.Fatalf("%s: %x: %x: %v", name, e.Key, v, err)
				}
			}
		}
	}
	if bad == 0 || fine == 0 {
		t.Error(bad, fine)
	}
}

// TestAnyValues: values of tokens that are tied to one another in any way.
func TestAnyValues(t *testing.T) {
	r := rand.New(rand.NewSource(5))
	told := map[api.Errno]int{}
	for range 3000 {
		n := 2 + r.Intn(5)
		tie := func() int { return max(-1, r.Intn(2*n)-n) }
		var values []string
		for range n {
			left, right := tie(), tie()
			kids := 0
			for _, k := range []int{left, right} {
				if k >= 0 {
					kids++
				}
			}
			height := 1 + kids
			values = append(values, text(tie(), left, right, 1+kids+r.Intn(1+kids), min(height, 1+r.Intn(3))))
		}
		u := lay(t, values...)
		s := New(u)
		for range 8 {
			check := unchanged(t, u)
			k, with := tok(r.Intn(n)), tok(r.Intn(n))
			for _, ask := range asks(s, k) {
				ask()
			}
			for name, change := range changes(s, k, with) {
				err := change()
				told[err]++
				if err != api.OK {
					check(name)
				} else {
					check = unchanged(t, u)
				}
			}
		}
	}
	if told[api.OK] < 1000 || told[api.ErrCorrupt] < 1000 || told[api.ErrFull] > 0 {
		t.Error(told)
	}
}

// harm changes one byte of a page.
func harm(f *pagefile.File, id int) {
	s, _ := f.Disk.Read(id)
	b := []byte(s)
	b[20] ^= 1
	f.Disk.Write(id, string(b))
}

// flushed is a tree on a file, of which no page is fresh.
func flushed(t *testing.T, f *pagefile.File, lists ...[]api.Token) (root, pages int) {
	t.Helper()
	x := alloc.New(f, nil, 2)
	u := cowtree.New(x, 0)
	for _, l := range lists {
		row(t, New(u), l...)
	}
	if err := x.Flush(); err != api.OK {
		t.Fatal(err)
	}
	return u.Root(), x.Pages()
}

// doneWith holds that a tree is done with, by an error: all calls tell it.
func doneWith(t *testing.T, u *cowtree.Tree, err api.Errno) {
	t.Helper()
	if u.Err() != err || u.Root() != 0 {
		t.Fatal(u.Err(), err, u.Root())
	}
	refused(t, New(u), tok(1), tok(2), err)
	refused(t, New(u), api.Token{A: 1 << 20}, tok(2), api.ErrVertex)
}

// TestSpoiltPages: a page that is spoilt is told, or nothing of it is seen. Who just asks leaves the tree as it is; behind a change that came to it the tree is done with.
func TestSpoiltPages(t *testing.T) {
	f := newFile(400)
	a, b := toks(count(25)...), toks(30, 31, 32)
	root, pages := flushed(t, f, a, b)
	var met, passed int
	for id := 2; id < pages; id++ {
		harm(f, id)
		for i, k := range a {
			u := cowtree.New(alloc.New(f, nil, pages), root)
			for name, ask := range asks(New(u), k) {
				noughts, err := ask()
				if err != api.OK && (err != api.ErrCorrupt || !noughts) || u.Err() != api.OK {
					t.Fatal(id, name, noughts, err, u.Err())
				}
			}
			for name := range changes(New(u), k, b[1]) {
				x := alloc.New(f, nil, pages)
				u := cowtree.New(x, root)
				switch err := changes(New(u), k, b[1])[name](); err {
				case api.ErrCorrupt:
					met++
					doneWith(t, u, err)
				case api.OK:
					passed++
					if u.Err() != api.OK {
						t.Fatal(id, i, name)
					}
				case api.ErrThere, api.ErrArg:
					if u.Err() != api.OK || u.Root() != root || len(x.Taken()) != 0 {
						t.Fatal(id, i, name)
					}
				default:
					t.Fatal(id, i, name, err)
				}
			}
		}
		harm(f, id)
	}
	if met == 0 || passed == 0 {
		t.Error(met, passed)
	}
	checkKept(t, cowtree.New(alloc.New(f, nil, pages), root), [][]api.Token{a, b})
}

// TestFull: on a disk of any size all is told as it should be, till there is no page left; then the tree is done with.
func TestFull(t *testing.T) {
	for sectors := 2; sectors < 40; sectors++ {
		u := newTree(sectors)
		s := New(u)
		var p plain
		var err api.Errno
		for i := 0; err == api.OK; i++ {
			err = s.Make(tok(i))
			if err == api.OK {
				p.make(tok(i))
			}
			if err == api.OK && i%5 > 0 {
				err = s.Join(tok(i-1), tok(i))
				if err == api.OK {
					p.join(tok(i-1), tok(i))
				}
			}
			if err == api.OK {
				checkKept(t, u, p.lists)
			}
		}
		if err != api.ErrFull {
			t.Fatal(sectors, err)
		}
		doneWith(t, u, api.ErrFull)
	}
}

// TestFullChanges: so it is with a change of what was there, that must take other pages: each of them may be the one that is not there any more.
func TestFullChanges(t *testing.T) {
	a, b := toks(count(25)...), toks(30, 31, 32)
	_, least := flushed(t, newFile(400), a, b, toks(40))
	full := map[string]int{}
	for more := range 20 {
		for name := range changes(New(nil), a[0], a[1]) {
			f := newFile(least + more)
			root, pages := flushed(t, f, a, b, toks(40))
			k := a[13]
			if name == "Remove" {
				k = tok(40)
			}
			if name == "Make" {
				k = tok(50)
			}
			u := cowtree.New(alloc.New(f, nil, pages), root)
			switch err := changes(New(u), k, b[1])[name](); err {
			case api.OK:
			case api.ErrFull:
				full[name]++
				doneWith(t, u, err)
			default:
				t.Fatal(more, name, err)
			}
			checkKept(t, cowtree.New(alloc.New(f, nil, pages), root), [][]api.Token{a, b, toks(40)})
		}
	}
	if len(full) != 6 {
		t.Error(full)
	}
}

// TestDown: without power nothing is read; a tree that was to be changed then is done with, even when the power is back.
func TestDown(t *testing.T) {
	f := newFile(400)
	a, b := toks(count(25)...), toks(30, 31, 32)
	root, pages := flushed(t, f, a, b)
	var done []*cowtree.Tree
	asked := cowtree.New(alloc.New(f, nil, pages), root)
	f.Disk.Break(0)
	f.Disk.Write(399, "")
	f.Write(399, api.KindLeaf, "")
	for name, ask := range asks(New(asked), a[1]) {
		if noughts, err := ask(); err != api.ErrDown || !noughts {
			t.Error(name, noughts, err)
		}
	}
	for name := range changes(New(nil), a[0], a[1]) {
		u := cowtree.New(alloc.New(f, nil, pages), root)
		if err := changes(New(u), a[3], b[1])[name](); err != api.ErrDown {
			t.Error(name, err)
		}
		done = append(done, u)
	}
	f.Disk.Crash(nil, 0, 0)
	for _, u := range done {
		doneWith(t, u, api.ErrDown)
	}
	checkKept(t, asked, [][]api.Token{a, b})
}
