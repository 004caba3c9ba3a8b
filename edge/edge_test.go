package edge

import (
	"cmp"
	"math"
	"math/rand"
	"slices"
	"strings"
	"testing"

	"rootstock/api"
)

const top = api.MaxVertex - 1

// numbers are vertices, the edges of what is one, and what is none.
var numbers = []int{math.MinInt, -1 << 32, -1 << 20, -1, 0, 1, 2, 255, 256, 65535, 65536, top - 1, top, top + 1, 1<<32 - 1, 1 << 32, 1<<32 + 5, math.MaxInt}

func isVertex(v int) bool { return 0 <= v && v <= 1048575 }

func pair(u, v int) api.Pair { return api.Pair{U: u, V: v} }

func pairs(n ...int) []api.Pair {
	var l []api.Pair
	for i := 0; i+1 < len(n); i += 2 {
		l = append(l, pair(n[i], n[i+1]))
	}
	return l
}

func TestVertex(t *testing.T) {
	for _, v := range numbers {
		want := api.ErrVertex
		if isVertex(v) {
			want = api.OK
		}
		if got := Vertex(v); got != want {
			t.Errorf("Vertex(%d) = %d, want %d", v, got, want)
		}
	}
}

func TestMake(t *testing.T) {
	if p, err := Make(5, 2); p != pair(2, 5) || err != api.OK {
		t.Errorf("Make(5, 2) = %v, %d", p, err)
	}
	for _, u := range numbers {
		for _, v := range numbers {
			want, wantErr := pair(u, v), api.OK
			switch {
			case !isVertex(u) || !isVertex(v):
				want, wantErr = api.Pair{}, api.ErrVertex
			case u == v:
				want, wantErr = api.Pair{}, api.ErrLoop
			case v < u:
				want = pair(v, u)
			}
			if p, err := Make(u, v); p != want || err != wantErr {
				t.Errorf("Make(%d, %d) = %v, %d, want %v, %d", u, v, p, err, want, wantErr)
			}
		}
	}
}

func TestErrorNumbers(t *testing.T) {
	if _, err := Make(-1, 0); err != 30 {
		t.Errorf("no vertex: %d, want 30", err)
	}
	if _, err := Make(7, 7); err != 31 {
		t.Errorf("a loop: %d, want 31", err)
	}
}

func fourBytes(n int) string {
	return string([]byte{byte(n >> 24), byte(n >> 16), byte(n >> 8), byte(n)})
}

func TestKey(t *testing.T) {
	for _, u := range numbers {
		for _, v := range numbers {
			want, wantErr := "", api.ErrVertex
			if isVertex(u) && isVertex(v) {
				want, wantErr = fourBytes(u)+fourBytes(v), api.OK
			}
			key, err := Key(u, v)
			if key != want || err != wantErr {
				t.Errorf("Key(%d, %d) = % x, %d, want % x, %d", u, v, key, err, want, wantErr)
			}
			if err != api.OK {
				continue
			}
			if a, b, err := Parse(key); a != u || b != v || err != api.OK {
				t.Errorf("Parse(Key(%d, %d)) = %d, %d, %d", u, v, a, b, err)
			}
		}
	}
}

func TestParseWrong(t *testing.T) {
	good := fourBytes(1) + fourBytes(2)
	for _, key := range []string{
		"", "x", good[:4], good[:7], good + "x", good + "\x00", good + good, strings.Repeat("\x00", 9), strings.Repeat("\x00", 300),
		fourBytes(top+1) + fourBytes(2),
		fourBytes(2) + fourBytes(top+1),
		fourBytes(top+1) + fourBytes(top+1),
		"\xff\xff\xff\xff\x00\x00\x00\x00",
		"\x00\x00\x00\x00\xff\xff\xff\xff",
		"\x80\x00\x00\x00\x00\x00\x00\x00",
	} {
		if u, v, err := Parse(key); u != 0 || v != 0 || err != api.ErrVertex {
			t.Errorf("Parse(% x) = %d, %d, %d, want 0, 0, %d", key, u, v, err, api.ErrVertex)
		}
	}
}

// Key and Parse undo one another: what is parsed is the one pair of which it is the key.
func FuzzParse(f *testing.F) {
	f.Add(fourBytes(1) + fourBytes(2))
	f.Add(fourBytes(top) + fourBytes(top+1))
	f.Add("")
	f.Fuzz(func(t *testing.T, key string) {
		u, v, err := Parse(key)
		if err != api.OK {
			if u != 0 || v != 0 || err != api.ErrVertex {
				t.Fatalf("Parse(% x) = %d, %d, %d", key, u, v, err)
			}
			if len(key) == 8 && key[0] == 0 && key[1] < 16 && key[4] == 0 && key[5] < 16 {
				t.Fatalf("Parse(% x): it is the key of two vertices", key)
			}
			return
		}
		if again, err := Key(u, v); again != key || err != api.OK {
			t.Fatalf("Key(Parse(% x)) = % x, %d", key, again, err)
		}
	})
}

func TestKeysAreOrderedAsPairs(t *testing.T) {
	var l []api.Pair
	for _, u := range numbers {
		for _, v := range numbers {
			if isVertex(u) && isVertex(v) {
				l = append(l, pair(u, v))
			}
		}
	}
	for _, a := range l {
		for _, b := range l {
			x, _ := Key(a.U, a.V)
			y, _ := Key(b.U, b.V)
			if strings.Compare(x, y) != Cmp(a, b) {
				t.Errorf("keys of %v and %v: %d, the pairs %d", a, b, strings.Compare(x, y), Cmp(a, b))
			}
		}
	}
}

func plainCmp(a, b api.Pair) int {
	switch {
	case a.U < b.U:
		return -1
	case a.U > b.U:
		return 1
	case a.V < b.V:
		return -1
	case a.V > b.V:
		return 1
	}
	return 0
}

func TestCmp(t *testing.T) {
	small := []int{math.MinInt, -1, 0, 1, math.MaxInt}
	for i := range 5 * 5 * 5 * 5 {
		a := pair(small[i%5], small[i/5%5])
		b := pair(small[i/25%5], small[i/125])
		if got, want := Cmp(a, b), plainCmp(a, b); got != want {
			t.Errorf("Cmp(%v, %v) = %d, want %d", a, b, got, want)
		}
	}
}

// The plain forms look at every pair, one by one, in sets.

func setOf(l []api.Pair) map[api.Pair]bool {
	s := map[api.Pair]bool{}
	for _, p := range l {
		s[p] = true
	}
	return s
}

func listOf(s map[api.Pair]bool) []api.Pair {
	var l []api.Pair
	for p, in := range s {
		if in {
			l = append(l, p)
		}
	}
	slices.SortFunc(l, plainCmp)
	return l
}

func plainMinus(a, b []api.Pair) []api.Pair {
	s := setOf(a)
	for _, p := range b {
		s[p] = false
	}
	return listOf(s)
}

func plainDiff(a, b []api.Pair) []api.Change {
	var d []api.Change
	for _, p := range plainMinus(a, b) {
		d = append(d, api.Change{Pair: p})
	}
	for _, p := range plainMinus(b, a) {
		d = append(d, api.Change{Pair: p, Added: true})
	}
	slices.SortFunc(d, func(x, y api.Change) int { return plainCmp(x.Pair, y.Pair) })
	return d
}

func plainApply(l []api.Pair, c []api.Change) []api.Pair {
	s := setOf(l)
	for _, x := range c {
		s[x.Pair] = x.Added
	}
	return listOf(s)
}

func TestSort(t *testing.T) {
	for _, c := range []struct{ give, want []api.Pair }{
		{nil, nil},
		{pairs(1, 2), pairs(1, 2)},
		{pairs(1, 2, 1, 2, 1, 2), pairs(1, 2)},
		{pairs(3, 4, 1, 2, 3, 4), pairs(1, 2, 3, 4)},
		{pairs(1, 9, 1, 3, 2, 0), pairs(1, 3, 1, 9, 2, 0)},
		{pairs(2, 1, 1, 2, 0, 0, -1, 5), pairs(-1, 5, 0, 0, 1, 2, 2, 1)},
		{pairs(math.MaxInt, 0, math.MinInt, 0, 0, 0), pairs(math.MinInt, 0, 0, 0, math.MaxInt, 0)},
	} {
		if got := Sort(c.give...); !slices.Equal(got, c.want) {
			t.Errorf("Sort(%v) = %v, want %v", c.give, got, c.want)
		}
	}
	if got := Sort(); len(got) != 0 {
		t.Errorf("Sort() = %v", got)
	}
	if got := Sort(pair(5, 6), pair(1, 2)); !slices.Equal(got, pairs(1, 2, 5, 6)) {
		t.Errorf("one by one: %v", got)
	}
}

func TestMinus(t *testing.T) {
	for _, c := range []struct{ a, b, want []api.Pair }{
		{nil, nil, nil},
		{nil, pairs(1, 2), nil},
		{pairs(3, 4, 1, 2, 3, 4), nil, pairs(1, 2, 3, 4)},
		{pairs(3, 4, 1, 2, 3, 4), pairs(2, 9, 1, 2), pairs(3, 4)},
		{pairs(1, 2, 3, 4), pairs(3, 4, 1, 2, 3, 4), nil},
		{pairs(5, 6, 1, 2, 3, 4), pairs(9, 9, 3, 4, 0, 0), pairs(1, 2, 5, 6)},
		{pairs(1, 2), pairs(2, 1), pairs(1, 2)},
	} {
		if got := Minus(c.a, c.b); !slices.Equal(got, c.want) {
			t.Errorf("Minus(%v, %v) = %v, want %v", c.a, c.b, got, c.want)
		}
	}
}

func TestDiff(t *testing.T) {
	in := func(u, v int) api.Change { return api.Change{Pair: pair(u, v), Added: true} }
	out := func(u, v int) api.Change { return api.Change{Pair: pair(u, v)} }
	for _, c := range []struct {
		a, b []api.Pair
		want []api.Change
	}{
		{nil, nil, nil},
		{pairs(1, 2, 3, 4), pairs(1, 2, 2, 9), []api.Change{in(2, 9), out(3, 4)}},
		{pairs(3, 4, 1, 2, 3, 4), pairs(2, 9, 1, 2), []api.Change{in(2, 9), out(3, 4)}},
		{nil, pairs(3, 4, 1, 2, 1, 2), []api.Change{in(1, 2), in(3, 4)}},
		{pairs(3, 4, 1, 2, 1, 2), nil, []api.Change{out(1, 2), out(3, 4)}},
		{pairs(1, 2, 1, 2), pairs(1, 2), nil},
		{pairs(1, 2), pairs(2, 1), []api.Change{out(1, 2), in(2, 1)}},
	} {
		if got := Diff(c.a, c.b); !slices.Equal(got, c.want) {
			t.Errorf("Diff(%v, %v) = %v, want %v", c.a, c.b, got, c.want)
		}
	}
}

func TestApply(t *testing.T) {
	in, out := api.Change{Pair: pair(1, 2), Added: true}, api.Change{Pair: pair(1, 2)}
	for _, c := range []struct {
		l    []api.Pair
		c    []api.Change
		want []api.Pair
	}{
		{nil, nil, nil},
		{pairs(3, 4, 1, 2, 3, 4), nil, pairs(1, 2, 3, 4)},
		{nil, []api.Change{in}, pairs(1, 2)},
		{nil, []api.Change{in, in}, pairs(1, 2)},
		{nil, []api.Change{out}, nil},
		{nil, []api.Change{in, out}, nil},
		{nil, []api.Change{out, in}, pairs(1, 2)},
		{nil, []api.Change{in, out, in}, pairs(1, 2)},
		{pairs(1, 2), []api.Change{in}, pairs(1, 2)},
		{pairs(1, 2, 1, 2), []api.Change{out}, nil},
		{pairs(1, 2), []api.Change{out, out}, nil},
		{pairs(1, 2), []api.Change{out, in, out}, nil},
		{pairs(5, 6, 0, 1), []api.Change{{Pair: pair(9, 9), Added: true}, in, {Pair: pair(5, 6)}}, pairs(0, 1, 1, 2, 9, 9)},
		{pairs(1, 2), []api.Change{{Pair: pair(2, 1)}}, pairs(1, 2)},
	} {
		if got := Apply(c.l, c.c); !slices.Equal(got, c.want) {
			t.Errorf("Apply(%v, %v) = %v, want %v", c.l, c.c, got, c.want)
		}
	}
}

func randomPairs(r *rand.Rand, most, kinds int) []api.Pair {
	l := make([]api.Pair, r.Intn(most+1))
	for i := range l {
		l[i] = pair(r.Intn(kinds)-kinds/2, r.Intn(kinds))
	}
	return l
}

func randomChanges(r *rand.Rand, most, kinds int) []api.Change {
	var c []api.Change
	for _, p := range randomPairs(r, most, kinds) {
		c = append(c, api.Change{Pair: p, Added: r.Intn(2) == 0})
	}
	return c
}

func checkLists(t *testing.T, a, b []api.Pair, c []api.Change) {
	t.Helper()
	if got, want := Sort(a...), listOf(setOf(a)); !slices.Equal(got, want) {
		t.Fatalf("Sort(%v) = %v, want %v", a, got, want)
	}
	if got, want := Minus(a, b), plainMinus(a, b); !slices.Equal(got, want) {
		t.Fatalf("Minus(%v, %v) = %v, want %v", a, b, got, want)
	}
	d := Diff(a, b)
	if want := plainDiff(a, b); !slices.Equal(d, want) {
		t.Fatalf("Diff(%v, %v) = %v, want %v", a, b, d, want)
	}
	if got, want := Apply(a, c), plainApply(a, c); !slices.Equal(got, want) {
		t.Fatalf("Apply(%v, %v) = %v, want %v", a, c, got, want)
	}
	if got, want := Apply(a, d), Sort(b...); !slices.Equal(got, want) {
		t.Fatalf("Apply(%v, Diff to %v) = %v, want %v", a, b, got, want)
	}
}

func TestAgainstSets(t *testing.T) {
	r := rand.New(rand.NewSource(3))
	for i := range 6000 {
		most, kinds := 1+i%20, 1+i%7
		checkLists(t, randomPairs(r, most, kinds), randomPairs(r, most, kinds), randomChanges(r, 2*most, kinds))
	}
	for range 4 {
		checkLists(t, randomPairs(r, 20000, 150), randomPairs(r, 20000, 150), randomChanges(r, 20000, 150))
	}
}

// spoil changes all that a list's memory holds, up to its capacity.
func spoil[T any](l []T, with T) {
	l = l[:cap(l)]
	for i := range l {
		l[i] = with
	}
}

// No list that is handed in is changed, and no answer hangs on one any more.
func TestNothingIsShared(t *testing.T) {
	bad := pair(-7, -7)
	r := rand.New(rand.NewSource(5))
	for i := range 200 {
		a, b, c := randomPairs(r, 8, 4), randomPairs(r, 8, 4), randomChanges(r, 8, 4)
		switch i % 4 {
		case 1:
			a = listOf(setOf(a))
		case 2:
			b = nil
		case 3:
			a, c = listOf(setOf(a)), nil
		}
		a0, b0, c0 := slices.Clone(a), slices.Clone(b), slices.Clone(c)
		lists := [][]api.Pair{Sort(a...), Minus(a, b), Apply(a, c)}
		d := Diff(a, b)
		if !slices.Equal(a, a0) || !slices.Equal(b, b0) || !slices.Equal(c, c0) {
			t.Fatalf("an argument was changed: %v %v %v, were %v %v %v", a, b, c, a0, b0, c0)
		}
		spoil(a, bad)
		spoil(b, bad)
		spoil(c, api.Change{Pair: bad})
		if !slices.Equal(lists[0], listOf(setOf(a0))) || !slices.Equal(lists[1], plainMinus(a0, b0)) || !slices.Equal(lists[2], plainApply(a0, c0)) || !slices.Equal(d, plainDiff(a0, b0)) {
			t.Fatalf("an answer shares memory with an argument: %v %v %v", a0, b0, c0)
		}
		a1 := slices.Clone(a)
		for _, l := range lists {
			spoil(l, pair(-9, -9))
		}
		if !slices.Equal(a, a1) {
			t.Fatal("an argument shares memory with an answer")
		}
	}
}

// Great lists take about as many steps as they have things, but for sorting: a call of so many pairs ends soon.
func TestGreatLists(t *testing.T) {
	const n = 200000
	a, b := make([]api.Pair, n), make([]api.Pair, n)
	for i := range n {
		a[i], b[i] = pair(n-i, 0), pair(i, 0)
	}
	d := Diff(a, b)
	if want := []api.Change{{Pair: pair(0, 0), Added: true}, {Pair: pair(n, 0)}}; !slices.Equal(d, want) {
		t.Fatalf("Diff: %d changes", len(d))
	}
	if got := Apply(a, d); !slices.Equal(got, b) {
		t.Fatalf("Apply: %d pairs", len(got))
	}
	if got := Minus(b, a); !slices.Equal(got, pairs(0, 0)) {
		t.Fatalf("Minus: %d pairs", len(got))
	}
}

// What goes through two lists knows nothing of pairs.
func TestThrough(t *testing.T) {
	var got []string
	through([]string{"a", "b", "d"}, []string{"b", "c"}, cmp.Compare[string], func(x string, inA, inB bool) {
		if inA {
			x += "1"
		}
		if inB {
			x += "2"
		}
		got = append(got, x)
	})
	if want := []string{"a1", "b12", "c2", "d1"}; !slices.Equal(got, want) {
		t.Errorf("through: %v, want %v", got, want)
	}
}

// FuzzLists reads small pairs, and what is done with them, from bytes.
func FuzzLists(f *testing.F) {
	f.Add([]byte{0x12, 0x52, 0x92, 0xd2})
	f.Add([]byte{})
	f.Fuzz(func(t *testing.T, script []byte) {
		var a, b []api.Pair
		var c []api.Change
		for _, x := range script {
			p := pair(int(x&7), int(x>>3&7))
			switch x >> 6 {
			case 0:
				a = append(a, p)
			case 1:
				b = append(b, p)
			case 2:
				c = append(c, api.Change{Pair: p})
			default:
				c = append(c, api.Change{Pair: p, Added: true})
			}
		}
		checkLists(t, a, b, c)
	})
}
