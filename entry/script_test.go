package entry

import (
	"maps"
	"math/rand"
	"slices"
	"strings"
	"testing"

	"rootstock/api"
)

// source is bytes that say what a script does; behind its end there are noughts.
type source struct{ bytes []byte }

func (s *source) next() int {
	if len(s.bytes) == 0 {
		return 0
	}
	b := s.bytes[0]
	s.bytes = s.bytes[1:]
	return int(b)
}

// text is one of few texts, so that they meet: short ones, and ones near the limits of keys and values.
func (s *source) text() string {
	switch n := s.next(); n % 8 {
	case 0:
		return []string{"", "\x00", "\xff", "\x80", "a", "A"}[n/8%6]
	case 1:
		return strings.Repeat("k", 14+n/8%5)
	case 2:
		return strings.Repeat("v", 38+n/8%5)
	case 3, 4:
		return string([]byte{byte('a' + n/8%4)})
	default:
		return string([]byte{byte('a' + n/8%4), byte('a' + s.next()%4)})
	}
}

// plain is a list as a map, whose keys are sorted when it is told.
type plain map[string]string

func (p plain) list() []api.Entry {
	var l []api.Entry
	for _, key := range slices.Sorted(maps.Keys(p)) {
		l = append(l, api.Entry{Key: key, Value: p[key]})
	}
	return l
}

func (p plain) put(key, value string) {
	if n := len(key); n >= 1 && n <= 16 && len(value) <= 40 {
		p[key] = value
	}
}

// holds holds a list against what it should be.
func holds(t *testing.T, l []api.Entry, p plain, key string) {
	t.Helper()
	want := p.list()
	if !slices.Equal(l, want) {
		t.Fatalf("%q, want %q", l, want)
	}
	value, found := p[key]
	if v, ok := Get(l, key); v != value || ok != found {
		t.Fatalf("Get(%q, %q) = %q, %v", l, key, v, ok)
	}
	place := 0
	for place < len(want) && want[place].Key < key {
		place++
	}
	if i, ok := Find(l, key); i != place || ok != found {
		t.Fatalf("Find(%q, %q) = %d, %v", l, key, i, ok)
	}
	body, err := Encode(l)
	if err != api.OK || len(body) != Size(l...) {
		t.Fatalf("Encode(%q) = %q, %v, Size %d", l, body, err, Size(l...))
	}
	decodes(t, body, want)
	if got := Half(l); got != plainHalf(l) {
		t.Fatalf("Half(%q) = %d, want %d", l, got, plainHalf(l))
	}
}

// script puts and deletes, and goes back to old lists, which stay as they were; it tells the greatest length that a list had.
func script(t *testing.T, bytes []byte) int {
	s := &source{bytes}
	lists, plains, most := [][]api.Entry{nil}, []plain{{}}, 0
	for len(s.bytes) > 0 && len(lists) < 200 {
		what, from := s.next(), len(lists)-1
		if what%16 == 0 {
			from = s.next() % len(lists)
		}
		l, p, key := lists[from], maps.Clone(plains[from]), s.text()
		if what%4 == 3 {
			l = Delete(l, key)
			delete(p, key)
		} else {
			value := s.text()
			l = Put(l, key, value)
			p.put(key, value)
		}
		holds(t, l, p, key)
		lists, plains, most = append(lists, l), append(plains, p), max(most, len(l))
	}
	for i, l := range lists {
		if !slices.Equal(l, plains[i].list()) {
			t.Fatalf("list %d of the script has become %q, want %q", i, l, plains[i].list())
		}
	}
	return most
}

func TestScripts(t *testing.T) {
	r := rand.New(rand.NewSource(1111))
	most := 0
	for range 300 {
		bytes := make([]byte, r.Intn(500))
		r.Read(bytes)
		most = max(most, script(t, bytes))
	}
	if most < 15 {
		t.Errorf("the scripts' lists have no more than %d entries", most)
	}
}

func FuzzScript(f *testing.F) {
	f.Add([]byte("put, put again, delete"))
	f.Fuzz(func(t *testing.T, bytes []byte) { script(t, bytes) })
}

// plainDecode is Decode by the chapter's words: the list is taken from the bytes, and is right, or there is none.
func plainDecode(body string) ([]api.Entry, bool) {
	var texts []string
	for body != "" {
		n := int(body[0])
		if len(body) < 1+n {
			return nil, false
		}
		texts, body = append(texts, body[1:1+n]), body[1+n:]
	}
	if len(texts)%2 != 0 {
		return nil, false
	}
	l := list(texts...)
	for i, e := range l {
		if len(e.Key) < 1 || len(e.Key) > 16 || len(e.Value) > 40 || i > 0 && strings.Compare(l[i-1].Key, e.Key) >= 0 {
			return nil, false
		}
	}
	return l, true
}

// decodesAsPlain tells whether there is a list.
func decodesAsPlain(t *testing.T, body string) bool {
	t.Helper()
	l, ok := plainDecode(body)
	if ok {
		decodes(t, body, l)
		encodes(t, l, body)
	} else {
		decodeErr(t, body)
	}
	return ok
}

func TestAllShortBodies(t *testing.T) {
	bytes, count := "\x00\x01\x02ab", 0
	var try func(body string)
	try = func(body string) {
		if decodesAsPlain(t, body) {
			count++
		}
		for i := 0; len(body) < 7 && i < len(bytes); i++ {
			try(body + bytes[i:i+1])
		}
	}
	try("")
	if count < 300 {
		t.Errorf("just %d of them were lists", count)
	}
}

// A body of a list of which one byte is another one.
func TestSpoiltBodies(t *testing.T) {
	body, _ := Encode(list("a", "", "ab", "22", "b", long(40), long(16), "x"))
	for i := range len(body) {
		for b := range 256 {
			decodesAsPlain(t, body[:i]+string([]byte{byte(b)})+body[i+1:])
		}
	}
}

func FuzzDecode(f *testing.F) {
	f.Add("\x01a\x00\x02ab\x0222")
	f.Add("\x10" + long(16) + "\x28" + long(40))
	f.Fuzz(func(t *testing.T, body string) { decodesAsPlain(t, body) })
}

// roomy is the same list with room behind its end: what is put there is put into the caller's memory.
func roomy(l []api.Entry) []api.Entry {
	bad := api.Entry{Key: "room", Value: "behind"}
	all := slices.Concat(l, []api.Entry{bad, bad, bad})
	return all[:len(l)]
}

// spoil changes all that a list's memory holds, up to its capacity.
func spoil(l []api.Entry) {
	l = l[:cap(l)]
	for i := range l {
		l[i] = api.Entry{Key: "spoilt", Value: "spoilt"}
	}
}

// No list that is handed in is changed, up to its capacity, and no answer hangs on one.
func TestNothingIsShared(t *testing.T) {
	lists := slices.Collect(maps.Values(wrongLists()))
	lists = append(lists, nil, list("b", "1"), list("b", "1", "d", "2"), list("b", "1", "d", "2", "f", "3"))
	calls := map[string]func(l []api.Entry) []api.Entry{}
	for _, e := range slices.Concat(wrongEntries(), list("a", "x", "b", "x", "c", "x", "d", "x", "e", "x", "f", "x", "g", "x")) {
		calls["Put "+e.Key+" "+e.Value] = func(l []api.Entry) []api.Entry { return Put(l, e.Key, e.Value) }
		calls["Delete "+e.Key] = func(l []api.Entry) []api.Entry { return Delete(l, e.Key) }
	}
	for _, l := range lists {
		for what, call := range calls {
			given := roomy(l)
			all := slices.Clone(given[:cap(given)])
			got := call(given)
			want := slices.Clone(got)
			if !slices.Equal(given[:cap(given)], all) {
				t.Fatalf("%s changed %q to %q", what, all, given[:cap(given)])
			}
			spoil(given)
			if !slices.Equal(got, want) {
				t.Fatalf("%s of %q hangs on what was handed in", what, l)
			}
			copy(given[:cap(given)], all)
			spoil(got)
			if !slices.Equal(given[:cap(given)], all) {
				t.Fatalf("%s of %q: what was handed in hangs on the answer", what, l)
			}
		}
	}
}

// Calls that answer no list change none either.
func TestNothingIsChangedByLooking(t *testing.T) {
	for _, l := range append(slices.Collect(maps.Values(wrongLists())), list("b", "1", "d", "2", "f", "3")) {
		given := roomy(l)
		all := slices.Clone(given[:cap(given)])
		Find(given, "d")
		Get(given, "d")
		Size(given...)
		Half(given)
		Encode(given)
		if !slices.Equal(given[:cap(given)], all) {
			t.Errorf("%q was changed to %q", all, given[:cap(given)])
		}
	}
}

func TestDecodedListsStandAlone(t *testing.T) {
	body := "\x01a\x00\x02ab\x0222"
	one, _ := Decode(body)
	spoil(one)
	decodes(t, body, list("a", "", "ab", "22"))
}
