package entry

import (
	"math/rand"
	"slices"
	"strconv"
	"strings"
	"testing"

	"rootstock/api"
)

// list is entries by their keys and values: key, value, key, value ..
func list(s ...string) []api.Entry {
	var l []api.Entry
	for i := 0; i+1 < len(s); i += 2 {
		l = append(l, api.Entry{Key: s[i], Value: s[i+1]})
	}
	return l
}

// sized is entries of such sizes, with keys that rise, each of one byte.
func sized(sizes ...int) []api.Entry {
	var l []api.Entry
	for i, n := range sizes {
		l = append(l, api.Entry{Key: string([]byte{byte('a' + i)}), Value: strings.Repeat("v", n-3)})
	}
	return l
}

func long(n int) string { return strings.Repeat("k", n) }

// wrongEntries are entries that may not be.
func wrongEntries() []api.Entry {
	return list("", "", "", "v", long(17), "", long(17), "v", long(300), "", "k", long(41), "k", long(300), "", long(41), long(17), long(41))
}

// wrongLists are lists that are not right, by what is wrong with them.
func wrongLists() map[string][]api.Entry {
	return map[string][]api.Entry{
		"they fall":                     list("b", "", "a", ""),
		"they fall at the end":          list("a", "1", "c", "3", "b", "2"),
		"they fall at the beginning":    list("c", "1", "a", "3", "d", "2"),
		"a key twice":                   list("a", "1", "a", "1"),
		"a key twice, unlike":           list("a", "1", "b", "2", "b", "3"),
		"a key twice, not in a row":     list("a", "1", "b", "2", "a", "1"),
		"an empty key":                  list("", "v"),
		"an empty key ahead":            list("", "", "a", "1", "b", "2"),
		"an empty key behind":           list("a", "1", "", ""),
		"a long key":                    list("a", "1", long(17), "2", "z", "3"),
		"a long key alone":              list(long(17), ""),
		"a long value":                  list("a", "1", "b", long(41), "z", "3"),
		"a long value ahead":            list("a", long(41), "b", "2"),
		"a long value at the end":       list("a", "1", "b", long(41)),
		"a value longer than codec has": list("a", long(256)),
		"a key longer than codec has":   list(long(256), "a"),
		"as numbers, not as bytes":      list("9", "", "10", ""),
		"as letters, not as bytes":      list("a", "", "B", ""),
	}
}

func encodes(t testing.TB, l []api.Entry, want string) {
	t.Helper()
	if s, err := Encode(l); s != want || err != api.OK {
		t.Fatalf("Encode(%q) = %q, %v, want %q", l, s, err, want)
	}
}

func decodes(t testing.TB, body string, want []api.Entry) {
	t.Helper()
	if l, err := Decode(body); !slices.Equal(l, want) || err != api.OK {
		t.Fatalf("Decode(%q) = %q, %v, want %q", body, l, err, want)
	}
}

func decodeErr(t testing.TB, body string) {
	t.Helper()
	if l, err := Decode(body); len(l) != 0 || err != api.ErrCorrupt {
		t.Fatalf("Decode(%q) = %q, %v", body, l, err)
	}
}

func TestExamples(t *testing.T) {
	var l []api.Entry
	for _, k := range []string{"b", "a", "b"} {
		l = Put(l, k, k)
	}
	if !slices.Equal(l, list("a", "a", "b", "b")) {
		t.Errorf("put of b, a, b again: %q", l)
	}
	if n := Size(api.Entry{Key: "a", Value: "xy"}); n != 5 {
		t.Errorf("Size of (a, xy) = %d", n)
	}
	if k := Half(sized(5, 5, 5)); k != 2 {
		t.Errorf("Half of 5, 5, 5 = %d", k)
	}
	if k := Half(sized(5, 50)); k != 1 {
		t.Errorf("Half of 5, 50 = %d", k)
	}
}

func TestCheck(t *testing.T) {
	for key := range 40 {
		for value := range 60 {
			want := api.OK
			if key == 0 || key > 16 || value > 40 {
				want = api.ErrKeyLong
			}
			if err := Check(long(key), long(value)); err != want {
				t.Errorf("a key of %d and a value of %d bytes: %v, want %v", key, value, err, want)
			}
		}
	}
	for _, e := range wrongEntries() {
		if err := Check(e.Key, e.Value); err != api.ErrKeyLong {
			t.Errorf("Check(%q, %q) = %v", e.Key, e.Value, err)
		}
	}
}

// Bytes are counted, whatever they are: not signs, of which some take more than one.
func TestCheckCountsBytes(t *testing.T) {
	for _, c := range []struct {
		key, value string
		want       api.Errno
	}{
		{"\x00", "", api.OK},
		{"\xff\xfe", "\xff", api.OK},
		{" ", "\x00", api.OK},
		{strings.Repeat("é", 8), strings.Repeat("é", 20), api.OK},
		{strings.Repeat("é", 9), "", api.ErrKeyLong},
		{"k", strings.Repeat("é", 21), api.ErrKeyLong},
		{strings.Repeat("\x00", 16), strings.Repeat("\x00", 40), api.OK},
		{strings.Repeat("\x00", 17), "", api.ErrKeyLong},
		{"\x00", strings.Repeat("\x00", 41), api.ErrKeyLong},
	} {
		if err := Check(c.key, c.value); err != c.want {
			t.Errorf("Check(%q, %q) = %v, want %v", c.key, c.value, err, c.want)
		}
	}
}

func TestFind(t *testing.T) {
	l := list("B", "", "a", "", "aa", "", "ab", "", "b", "", "z", "", "\x80", "")
	for _, c := range []struct {
		key   string
		place int
		found bool
	}{
		{"", 0, false},
		{"\x00", 0, false},
		{"A", 0, false},
		{"B", 0, true},
		{"B\x00", 1, false},
		{"a", 1, true},
		{"a\x00", 2, false},
		{"aa", 2, true},
		{"aaa", 3, false},
		{"ab", 3, true},
		{"ac", 4, false},
		{"b", 4, true},
		{"y", 5, false},
		{"z", 5, true},
		{"zz", 6, false},
		{"\x7f", 6, false},
		{"\x80", 6, true},
		{"\x80\x00", 7, false},
		{"\xff", 7, false},
		{strings.Repeat("a", 300), 3, false},
		{strings.Repeat("\xff", 300), 7, false},
	} {
		if i, found := Find(l, c.key); i != c.place || found != c.found {
			t.Errorf("Find(%q) = %d, %v, want %d, %v", c.key, i, found, c.place, c.found)
		}
		if i, found := Find(nil, c.key); i != 0 || found {
			t.Errorf("Find(nil, %q) = %d, %v", c.key, i, found)
		}
	}
}

// What Find tells of a list that is not right is not asked; but it comes to an end.
func TestFindOfWrongListsEnds(t *testing.T) {
	for _, l := range wrongLists() {
		for _, e := range slices.Concat(l, wrongEntries(), list("a", "", "zz", "")) {
			Find(l, e.Key)
		}
	}
}

func TestGet(t *testing.T) {
	l := list("a", "1", "ab", "", "b", "3", long(16), long(40))
	for _, c := range []struct {
		key, value string
		found      bool
	}{
		{"a", "1", true},
		{"ab", "", true},
		{"b", "3", true},
		{long(16), long(40), true},
		{"", "", false},
		{"aa", "", false},
		{"abc", "", false},
		{"A", "", false},
		{"c", "", false},
		{"z", "", false},
		{long(15), "", false},
		{long(17), "", false},
	} {
		if v, found := Get(l, c.key); v != c.value || found != c.found {
			t.Errorf("Get(%q) = %q, %v, want %q, %v", c.key, v, found, c.value, c.found)
		}
		if v, found := Get(nil, c.key); v != "" || found {
			t.Errorf("Get(nil, %q) = %q, %v", c.key, v, found)
		}
	}
}

func TestPut(t *testing.T) {
	l := list("b", "2", "d", "4", "f", "6")
	for _, c := range []struct {
		key, value string
		want       []api.Entry
	}{
		{"a", "x", list("a", "x", "b", "2", "d", "4", "f", "6")},
		{"b", "x", list("b", "x", "d", "4", "f", "6")},
		{"b", "2", list("b", "2", "d", "4", "f", "6")},
		{"b", "", list("b", "", "d", "4", "f", "6")},
		{"c", "x", list("b", "2", "c", "x", "d", "4", "f", "6")},
		{"d", "x", list("b", "2", "d", "x", "f", "6")},
		{"e", "", list("b", "2", "d", "4", "e", "", "f", "6")},
		{"f", "x", list("b", "2", "d", "4", "f", "x")},
		{"g", "x", list("b", "2", "d", "4", "f", "6", "g", "x")},
		{"B", "x", list("B", "x", "b", "2", "d", "4", "f", "6")},
		{"b\x00", "x", list("b", "2", "b\x00", "x", "d", "4", "f", "6")},
		{"\xff", "x", list("b", "2", "d", "4", "f", "6", "\xff", "x")},
		{long(16), long(40), list("b", "2", "d", "4", "f", "6", long(16), long(40))},
		{"d", long(40), list("b", "2", "d", long(40), "f", "6")},
	} {
		if got := Put(l, c.key, c.value); !slices.Equal(got, c.want) {
			t.Errorf("Put(%q, %q) = %q, want %q", c.key, c.value, got, c.want)
		}
		if got := Put(nil, c.key, c.value); !slices.Equal(got, list(c.key, c.value)) {
			t.Errorf("Put(nil, %q, %q) = %q", c.key, c.value, got)
		}
	}
}

func TestDelete(t *testing.T) {
	l := list("b", "2", "d", "4", "f", "")
	for _, c := range []struct {
		key  string
		want []api.Entry
	}{
		{"b", list("d", "4", "f", "")},
		{"d", list("b", "2", "f", "")},
		{"f", list("b", "2", "d", "4")},
		{"a", l},
		{"c", l},
		{"e", l},
		{"g", l},
		{"B", l},
		{"b\x00", l},
		{"", l},
		{long(16), l},
		{long(17), l},
	} {
		if got := Delete(l, c.key); !slices.Equal(got, c.want) {
			t.Errorf("Delete(%q) = %q, want %q", c.key, got, c.want)
		}
		if got := Delete(nil, c.key); len(got) != 0 {
			t.Errorf("Delete(nil, %q) = %q", c.key, got)
		}
	}
	if got := Delete(list("a", "1"), "a"); len(got) != 0 {
		t.Errorf("the only one deleted: %q", got)
	}
}

// An entry that may not be is not put, not even over one that may, and not got.
func TestWrongEntries(t *testing.T) {
	for _, l := range [][]api.Entry{nil, list("k", "1"), list("a", "1", "k", "2", "z", "")} {
		for _, e := range wrongEntries() {
			if got := Put(l, e.Key, e.Value); !slices.Equal(got, l) {
				t.Errorf("Put(%q, %q, %q) = %q", l, e.Key, e.Value, got)
			}
			if Check(e.Key, "") == api.OK {
				continue
			}
			if v, found := Get(l, e.Key); v != "" || found {
				t.Errorf("Get(%q, %q) = %q, %v", l, e.Key, v, found)
			}
			if got := Delete(l, e.Key); !slices.Equal(got, l) {
				t.Errorf("Delete(%q, %q) = %q", l, e.Key, got)
			}
		}
	}
}

func TestWrongLists(t *testing.T) {
	for what, l := range wrongLists() {
		was := slices.Clone(l)
		for _, e := range slices.Concat(l, wrongEntries(), list("0", "x", "a", "x", "aa", "", "zz", "x")) {
			if v, found := Get(l, e.Key); v != "" || found {
				t.Errorf("%s: Get(%q) = %q, %v", what, e.Key, v, found)
			}
			if got := Put(l, e.Key, e.Value); !slices.Equal(got, was) {
				t.Errorf("%s: Put(%q, %q) = %q", what, e.Key, e.Value, got)
			}
			if got := Put(l, e.Key, "x"); !slices.Equal(got, was) {
				t.Errorf("%s: Put(%q, x) = %q", what, e.Key, got)
			}
			if got := Delete(l, e.Key); !slices.Equal(got, was) {
				t.Errorf("%s: Delete(%q) = %q", what, e.Key, got)
			}
		}
		if s, err := Encode(l); s != "" || err != api.ErrArg {
			t.Errorf("%s: Encode = %q, %v", what, s, err)
		}
		if !slices.Equal(l, was) {
			t.Errorf("%s: the list was changed: %q", what, l)
		}
	}
}

func TestSize(t *testing.T) {
	for _, c := range []struct {
		l    []api.Entry
		want int
	}{
		{nil, 0},
		{list("a", ""), 3},
		{list("a", "xy"), 5},
		{list("", ""), 2},
		{list("a", "xy", "bcd", "", "e", "f"), 14},
		{list(long(16), long(40)), 58},
		{list(long(17), long(41)), 60},
		{list(long(300), long(300)), 602},
		{list("b", "1", "a", "2", "a", "2"), 12},
		{list("é", "é"), 6},
	} {
		if got := Size(c.l...); got != c.want {
			t.Errorf("Size(%q) = %d, want %d", c.l, got, c.want)
		}
	}
	if Size() != 0 || Size(api.Entry{}, api.Entry{Key: "a"}) != 5 {
		t.Error("one by one")
	}
}

// plainHalf is Half by the chapter's words: each place is asked whether it does.
func plainHalf(l []api.Entry) int {
	if len(l) < 2 {
		return 0
	}
	for k := 1; k < len(l)-1; k++ {
		if 2*Size(l[:k]...) >= Size(l...) {
			return k
		}
	}
	return len(l) - 1
}

func TestHalf(t *testing.T) {
	for _, c := range []struct {
		sizes []int
		want  int
	}{
		{nil, 0},
		{[]int{5}, 0},
		{[]int{58}, 0},
		{[]int{5, 5}, 1},
		{[]int{5, 50}, 1},
		{[]int{50, 5}, 1},
		{[]int{5, 5, 5}, 2},
		{[]int{10, 5, 5}, 1},
		{[]int{9, 5, 5}, 2},
		{[]int{5, 5, 10}, 2},
		{[]int{5, 5, 50}, 2},
		{[]int{50, 5, 5}, 1},
		{[]int{5, 50, 5}, 2},
		{[]int{5, 5, 5, 5}, 2},
		{[]int{5, 5, 5, 6}, 3},
		{[]int{5, 5, 6, 5}, 3},
		{[]int{6, 5, 5, 6}, 2},
		{[]int{3, 3, 3, 3, 50}, 4},
		{[]int{4, 13, 23}, 2},
		{[]int{20, 10, 10, 10, 11}, 3},
		{[]int{20, 10, 10, 10, 10}, 2},
	} {
		if got := Half(sized(c.sizes...)); got != c.want {
			t.Errorf("Half of %v = %d, want %d", c.sizes, got, c.want)
		}
	}
}

// Half asks nothing but sizes: lists that are not right are cut as others are.
func TestHalfAsItsWordsSay(t *testing.T) {
	for what, l := range wrongLists() {
		if got := Half(l); got != plainHalf(l) {
			t.Errorf("%s: Half(%q) = %d", what, l, got)
		}
	}
	for _, c := range []struct {
		l    []api.Entry
		want int
	}{
		{list("", "", "", ""), 1},
		{list("", "", "", "", "", ""), 2},
		{list(long(300), "", "a", "", "a", ""), 1},
		{list("", ""), 0},
	} {
		if got := Half(c.l); got != c.want {
			t.Errorf("Half(%q) = %d, want %d", c.l, got, c.want)
		}
	}
	r := rand.New(rand.NewSource(11))
	for range 20000 {
		sizes := make([]int, r.Intn(9))
		for i := range sizes {
			sizes[i] = 3 + r.Intn(1+r.Intn(56))
		}
		if got, want := Half(sized(sizes...)), plainHalf(sized(sizes...)); got != want {
			t.Fatalf("Half of %v = %d, want %d", sizes, got, want)
		}
	}
}

func TestBodies(t *testing.T) {
	for _, c := range []struct {
		l    []api.Entry
		body string
	}{
		{nil, ""},
		{list("a", ""), "\x01a\x00"},
		{list("a", "xy"), "\x01a\x02xy"},
		{list("\x00", "\x00"), "\x01\x00\x01\x00"},
		{list("\x01", "\x01\x01", "\x02", ""), "\x01\x01\x02\x01\x01\x01\x02\x00"},
		{list("a", "1", "ab", "22", "b", ""), "\x01a\x011\x02ab\x0222\x01b\x00"},
		{list("B", "", "a", ""), "\x01B\x00\x01a\x00"},
		{list("z", "", "é", "ü"), "\x01z\x00\x02\xc3\xa9\x02\xc3\xbc"},
		{list("\x7f", "", "\x80", "", "\xff", "", "\xff\x00", ""), "\x01\x7f\x00\x01\x80\x00\x01\xff\x00\x02\xff\x00\x00"},
		{list(long(15), "", long(16), long(40)), "\x0f" + long(15) + "\x00\x10" + long(16) + "\x28" + long(40)},
	} {
		encodes(t, c.l, c.body)
		decodes(t, c.body, c.l)
		if got := Size(c.l...); got != len(c.body) {
			t.Errorf("Size(%q) = %d, want %d", c.l, got, len(c.body))
		}
	}
}

func TestWhatIsNoBody(t *testing.T) {
	for _, body := range []string{
		"\x00", "\x00\x00", "\x00\x01v", "\x01", "\xff", "a",
		"\x01a", "\x01a\x01", "\x01a\x02x", "\x02a", "\x02a\x00",
		"\x01a\x00\x00", "\x01a\x00\x01", "\x01a\x00\x01b", "\x01a\x00\x00\x00",
		"\x00\x00\x01a\x00",
		"\x01b\x00\x01a\x00", "\x01a\x00\x01a\x00", "\x01a\x011\x01a\x012", "\x01a\x00\x01B\x00",
		"\x02ab\x00\x01a\x00", "\x01a\x00\x01b\x00\x01a\x00",
		"\x11" + long(17) + "\x00", "\x01a\x29" + long(41), "\x01a\x00\x11" + long(17) + "\x00",
		"\x01a\x29" + long(41) + "\x01b\x00", "\xff" + long(255) + "\x00", "\x01a\xff" + long(255),
		"\x10" + long(15), "\x01a\x28" + long(39),
	} {
		decodeErr(t, body)
	}
}

// What is cut off is no body, unless it is cut between two entries; and neither is what has a byte more.
func TestBodiesThatAreCut(t *testing.T) {
	l := list("a", "", "ab", "22", "b", long(40), long(16), "x")
	body, _ := Encode(l)
	whole := map[int]int{}
	for k := range len(l) + 1 {
		whole[Size(l[:k]...)] = k
	}
	for n := range len(body) + 1 {
		if k, ok := whole[n]; ok {
			decodes(t, body[:n], l[:k])
		} else {
			decodeErr(t, body[:n])
		}
	}
	for b := range 256 {
		decodeErr(t, body+string([]byte{byte(b)}))
	}
}

// A body may be longer than a page's: that is asked by who has pages.
func TestGreatLists(t *testing.T) {
	var l []api.Entry
	for n := range 20000 {
		key := strconv.Itoa(100000 + n)
		l = append(l, api.Entry{Key: key, Value: key + key})
	}
	body, err := Encode(l)
	if err != api.OK || len(body) != 20*len(l) || Size(l...) != len(body) || Half(l) != len(l)/2 {
		t.Fatalf("%d bytes, %v, Size %d, Half %d", len(body), err, Size(l...), Half(l))
	}
	decodes(t, body, l)
	for n := 0; n < len(l); n += 997 {
		if i, found := Find(l, l[n].Key); i != n || !found {
			t.Errorf("Find(%q) = %d, %v", l[n].Key, i, found)
		}
		if i, found := Find(l, l[n].Key+"0"); i != n+1 || found {
			t.Errorf("Find(%q0) = %d, %v", l[n].Key, i, found)
		}
	}
	l[len(l)-1].Key = "1"
	if got := Put(l, "0", ""); !slices.Equal(got, l) {
		t.Error("put into a list whose last key is wrong")
	}
}
