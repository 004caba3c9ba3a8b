package treediff

import (
	"math/rand"
	"slices"
	"strings"
	"testing"

	"rootstock/api"
	"rootstock/entry"
)

// list are entries of keys and values by turns.
func list(words ...string) []api.Entry {
	var l []api.Entry
	for i := 0; i < len(words); i += 2 {
		l = append(l, api.Entry{Key: words[i], Value: words[i+1]})
	}
	return l
}

// plainLists are the deltas of two lists, by the chapter's words: key by key.
func plainLists(a, b []api.Entry) []Delta {
	old, new := map[string]string{}, map[string]string{}
	var keys []string
	for _, e := range a {
		old[e.Key] = e.Value
		keys = append(keys, e.Key)
	}
	for _, e := range b {
		new[e.Key] = e.Value
		keys = append(keys, e.Key)
	}
	slices.Sort(keys)
	var out []Delta
	for _, key := range slices.Compact(keys) {
		was, there := old[key]
		is, still := new[key]
		if there != still || was != is {
			out = append(out, Delta{Key: key, Old: was, New: is, Was: there, Is: still})
		}
	}
	return out
}

// plainApply does deltas one after the other, as the chapter says.
func plainApply(l []api.Entry, d []Delta) []api.Entry {
	for _, x := range d {
		if x.Is {
			l = entry.Put(l, x.Key, x.New)
		} else {
			l = entry.Delete(l, x.Key)
		}
	}
	return l
}

// turned are deltas with both sides changed.
func turned(d []Delta) []Delta {
	var out []Delta
	for _, x := range d {
		out = append(out, Delta{Key: x.Key, Old: x.New, New: x.Old, Was: x.Is, Is: x.Was})
	}
	return out
}

func TestExample(t *testing.T) {
	d := Lists(list("a", "1", "b", "2"), list("b", "3", "c", "4"))
	want := []Delta{{Key: "a", Old: "1", Was: true}, {Key: "b", Old: "2", New: "3", Was: true, Is: true}, {Key: "c", New: "4", Is: true}}
	if !slices.Equal(d, want) {
		t.Error(d)
	}
}

func TestListsAtTheirEdges(t *testing.T) {
	key16, value40 := strings.Repeat("k", 16), strings.Repeat("v", 40)
	for _, c := range []struct {
		a, b []api.Entry
		want []Delta
	}{
		{nil, nil, nil},
		{list(), nil, nil},
		{list("a", "1"), list("a", "1"), nil},
		{list("a", ""), nil, []Delta{{Key: "a", Was: true}}},
		{nil, list("a", ""), []Delta{{Key: "a", Is: true}}},
		{list("a", ""), list("a", "x"), []Delta{{Key: "a", New: "x", Was: true, Is: true}}},
		{list("a", "x"), list("a", ""), []Delta{{Key: "a", Old: "x", Was: true, Is: true}}},
		{list("a", ""), list("a\x00", ""), []Delta{{Key: "a", Was: true}, {Key: "a\x00", Is: true}}},
		{list("\x7f", "", "\x80", "", "\xff", ""), list("\x80", ""), []Delta{{Key: "\x7f", Was: true}, {Key: "\xff", Was: true}}},
		{list(key16, value40), list(key16[:15], value40), []Delta{{Key: key16[:15], New: value40, Is: true}, {Key: key16, Old: value40, Was: true}}},
	} {
		if d := Lists(c.a, c.b); !slices.Equal(d, c.want) {
			t.Errorf("Lists(%q, %q): %v", c.a, c.b, d)
		}
		if d := Lists(c.b, c.a); !slices.Equal(d, turned(c.want)) {
			t.Errorf("Lists(%q, %q): %v", c.b, c.a, d)
		}
	}
}

// notRight are lists that are not right.
func notRight() [][]api.Entry {
	return [][]api.Entry{
		list("b", "", "a", ""), list("a", "", "a", ""), list("", "x"), list(strings.Repeat("k", 17), ""), list("a", strings.Repeat("v", 41)),
		list("a", "", "c", "", "b", ""), list("a", "", "b", strings.Repeat("v", 41)),
	}
}

func TestListsThatAreNotRight(t *testing.T) {
	for _, wrong := range notRight() {
		for _, other := range [][]api.Entry{nil, list("a", "1"), list("x", "1", "y", "2"), wrong} {
			if d := Lists(wrong, other); len(d) != 0 {
				t.Errorf("Lists(%q, %q): %v", wrong, other, d)
			}
			if d := Lists(other, wrong); len(d) != 0 {
				t.Errorf("Lists(%q, %q): %v", other, wrong, d)
			}
		}
	}
}

func TestApply(t *testing.T) {
	long := strings.Repeat("k", 17)
	two := list("a", "1", "c", "3")
	for _, c := range []struct {
		l    []api.Entry
		d    []Delta
		want []api.Entry
	}{
		{nil, nil, nil},
		{two, nil, two},
		{two, []Delta{{}}, two},
		{two, []Delta{{Key: "b", New: "2", Is: true}}, list("a", "1", "b", "2", "c", "3")},
		{two, []Delta{{Key: "a", Old: "1", Was: true}}, list("c", "3")},
		// Neither what was, nor whether it was, is asked.
		{two, []Delta{{Key: "a", Old: "other", New: "4", Is: true}}, list("a", "4", "c", "3")},
		{two, []Delta{{Key: "b", Old: "2", Was: true}}, two},
		{two, []Delta{{Key: "c", New: "4"}}, list("a", "1")},
		// They need not rise, and are done one after the other.
		{two, []Delta{{Key: "d", Is: true}, {Key: "b", Is: true}}, list("a", "1", "b", "", "c", "3", "d", "")},
		{two, []Delta{{Key: "b", New: "2", Is: true}, {Key: "b"}}, two},
		{two, []Delta{{Key: "a"}, {Key: "a", New: "2", Is: true}}, list("a", "2", "c", "3")},
		{two, []Delta{{Key: "a", New: "2", Is: true}, {Key: "a", New: "5", Is: true}}, list("a", "5", "c", "3")},
		// What may not be is not put, and takes nothing back either.
		{two, []Delta{{Key: "", Is: true}, {Key: long, Is: true}, {Key: "a", New: strings.Repeat("v", 41), Is: true}}, two},
		{two, []Delta{{Key: "a", New: "2", Is: true}, {Key: "a", New: strings.Repeat("v", 41), Is: true}}, list("a", "2", "c", "3")},
		{two, []Delta{{Key: "a"}, {Key: "a", New: strings.Repeat("v", 41), Is: true}}, list("c", "3")},
		{two, []Delta{{Key: long}, {Key: ""}}, two},
	} {
		if l := Apply(c.l, c.d); !slices.Equal(l, c.want) {
			t.Errorf("Apply(%q, %v): %q", c.l, c.d, l)
		}
		if l := plainApply(c.l, c.d); !slices.Equal(l, c.want) {
			t.Errorf("one after the other: %q, %v: %q", c.l, c.d, l)
		}
	}
	for _, wrong := range notRight() {
		if l := Apply(wrong, []Delta{{Key: "a"}, {Key: "x", Is: true}}); !slices.Equal(l, wrong) {
			t.Errorf("Apply to %q: %q", wrong, l)
		}
	}
}

// TestAnswersAreNewMemory: what is handed in is neither changed nor handed out.
func TestAnswersAreNewMemory(t *testing.T) {
	for _, l := range append(notRight(), list("a", "1", "c", "3")) {
		for _, d := range [][]Delta{nil, {{Key: "b", Is: true}}, {{Key: "a"}}, {{Key: "x"}}} {
			room := append(slices.Clone(l), list("z", "room")...)[:len(l)]
			was := slices.Clone(d)
			got := Apply(room, d)
			for i := range got {
				got[i].Key = "changed"
			}
			_ = append(got, api.Entry{Key: "more"})
			if !slices.Equal(room, l) || room[:len(l)+1][len(l)].Key != "z" || !slices.Equal(d, was) {
				t.Errorf("%q, %v", room, d)
			}
		}
	}
}

// anyList is a right list of few keys, so that two of them have many in common.
func anyList(r *rand.Rand) []api.Entry {
	var l []api.Entry
	for range r.Intn(20) {
		l = entry.Put(l, string([]byte{byte('a' + r.Intn(6)), byte('a' + r.Intn(3))})[:1+r.Intn(2)], strings.Repeat("v", r.Intn(3)))
	}
	return l
}

func TestManyLists(t *testing.T) {
	r := rand.New(rand.NewSource(1))
	for range 3000 {
		a, b, c := anyList(r), anyList(r), anyList(r)
		d := Lists(a, b)
		if !slices.Equal(d, plainLists(a, b)) {
			t.Fatalf("Lists(%q, %q): %v", a, b, d)
		}
		if !slices.Equal(Lists(b, a), turned(d)) {
			t.Fatalf("Lists(%q, %q) is not the other way round", b, a)
		}
		if l := Apply(a, d); !slices.Equal(l, b) {
			t.Fatalf("Apply(%q, %v): %q", a, d, l)
		}
		// Deltas of others, in any order, some of them twice.
		more := append(Lists(b, c), Lists(c, a)...)
		r.Shuffle(len(more), func(i, j int) { more[i], more[j] = more[j], more[i] })
		if l := Apply(a, more); !slices.Equal(l, plainApply(a, more)) {
			t.Fatalf("Apply(%q, %v): %q", a, more, l)
		}
	}
}

// TestGreatLists: deltas are done in a time that the lists' lengths ask for, not their product.
func TestGreatLists(t *testing.T) {
	var a, b []api.Entry
	for i := range 200000 {
		key := string([]byte{byte(i >> 16), byte(i >> 8), byte(i)})
		if i%3 != 0 {
			a = append(a, api.Entry{Key: key, Value: "old"})
		}
		if i%3 != 1 {
			b = append(b, api.Entry{Key: key, Value: "old"})
		}
	}
	d := Lists(a, b)
	if len(d) < 100000 || !slices.Equal(Apply(a, d), b) || !slices.Equal(Apply(b, turned(d)), a) {
		t.Error(len(d))
	}
}
