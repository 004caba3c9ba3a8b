package node

import (
	"math/rand"
	"slices"
	"strings"
	"testing"

	"rootstock/api"
)

func encodes(t testing.TB, n Node, kind api.Kind, body string) {
	t.Helper()
	if k, s, err := Encode(n); k != kind || s != body || err != api.OK {
		t.Fatalf("Encode(%+v) = %v, %q, %v, want %v, %q", n, k, s, err, kind, body)
	}
}

func encodeErr(t testing.TB, n Node, want api.Errno) {
	t.Helper()
	if k, s, err := Encode(n); k != api.KindNone || s != "" || err != want {
		t.Fatalf("Encode(%+v) = %v, %q, %v, want %v", n, k, s, err, want)
	}
}

func decodes(t testing.TB, kind api.Kind, body string, want Node) {
	t.Helper()
	if n, err := Decode(kind, body); !same(n, want) || err != api.OK {
		t.Fatalf("Decode(%v, %q) = %+v, %v, want %+v", kind, body, n, err, want)
	}
}

func decodeErr(t testing.TB, kind api.Kind, body string) {
	t.Helper()
	if n, err := Decode(kind, body); !same(n, Node{}) || err != api.ErrCorrupt {
		t.Fatalf("Decode(%v, %q) = %+v, %v", kind, body, n, err)
	}
}

func TestBodies(t *testing.T) {
	for _, c := range []struct {
		n    Node
		kind api.Kind
		body string
	}{
		{leaf(), api.KindLeaf, ""},
		{leaf("a", ""), api.KindLeaf, "\x01a\x00"},
		{leaf("a", "1", "ab", "22", "b", ""), api.KindLeaf, "\x01a\x011\x02ab\x0222\x01b\x00"},
		{leaf(long(16), long(40)), api.KindLeaf, "\x10" + long(16) + "\x28" + long(40)},
		{inner([]int{2}), api.KindInner, "\x00\x00\x00\x02"},
		{inner([]int{most}), api.KindInner, "\xff\xff\xff\xff"},
		{inner([]int{0x01020304}), api.KindInner, "\x01\x02\x03\x04"},
		{inner([]int{5, 9}, "m"), api.KindInner, "\x00\x00\x00\x05\x01m\x00\x00\x00\x09"},
		{inner([]int{300, 2, 65536}, "a", "ab"), api.KindInner, "\x00\x00\x01\x2c\x01a\x00\x00\x00\x02\x02ab\x00\x01\x00\x00"},
		{inner([]int{5, 5}, "\x00"), api.KindInner, "\x00\x00\x00\x05\x01\x00\x00\x00\x00\x05"},
		{inner([]int{5, 6}, long(16)), api.KindInner, "\x00\x00\x00\x05\x10" + long(16) + "\x00\x00\x00\x06"},
	} {
		encodes(t, c.n, c.kind, c.body)
		decodes(t, c.kind, c.body, c.n)
		if got := Size(c.n); got != len(c.body) {
			t.Errorf("Size(%+v) = %d, want %d", c.n, got, len(c.body))
		}
	}
}

func TestWhatIsEncodedIsDecoded(t *testing.T) {
	for _, n := range rightNodes() {
		if Size(n) > 240 {
			encodeErr(t, n, api.ErrPageLong)
			continue
		}
		kind, body, err := Encode(n)
		if err != api.OK || len(body) != Size(n) || (kind == api.KindLeaf) != n.Leaf || (kind == api.KindInner) == n.Leaf {
			t.Fatalf("Encode(%+v) = %v, %q, %v", n, kind, body, err)
		}
		decodes(t, kind, body, n)
	}
}

// What is not right is told ahead of what is too long.
func TestWhatIsNotEncoded(t *testing.T) {
	for what, n := range wrongNodes() {
		t.Run(what, func(t *testing.T) { encodeErr(t, n, api.ErrArg) })
	}
}

func TestGreatestBodies(t *testing.T) {
	for more := -3; more <= 3; more++ {
		for _, n := range []Node{fullLeaf(more), fullInner(more)} {
			if more > 0 {
				encodeErr(t, n, api.ErrPageLong)
				continue
			}
			kind, body, _ := Encode(n)
			if len(body) != 240+more {
				t.Fatalf("%d bytes, want %d", len(body), 240+more)
			}
			decodes(t, kind, body, n)
		}
	}
}

// What is too long for a page is no body, though it is one but for that.
func TestBodiesThatAreTooLong(t *testing.T) {
	for more := 1; more <= 15; more++ {
		for _, n := range []Node{fullLeaf(more), fullInner(min(more, 8))} {
			body := plainBody(n)
			if n.Leaf {
				decodeErr(t, api.KindLeaf, body)
			} else {
				decodeErr(t, api.KindInner, body)
			}
		}
	}
	for _, n := range []int{241, 256, 1000, 1 << 20} {
		for _, kind := range []api.Kind{api.KindLeaf, api.KindInner} {
			for _, s := range []string{"\x00", "\x01", "a", "\xff"} {
				decodeErr(t, kind, strings.Repeat(s, n))
			}
		}
	}
}

func TestKindsThatAreNone(t *testing.T) {
	for kind := range 256 {
		for _, body := range []string{"", "\x01a\x00", "\x00\x00\x00\x05", "\x00\x00\x00\x05\x01m\x00\x00\x00\x09"} {
			n, err := Decode(api.Kind(kind), body)
			_, ok := plainDecode(api.Kind(kind), body)
			if (err == api.OK) != ok || ok && n.Leaf != (kind == 1) {
				t.Errorf("Decode(%d, %q) = %+v, %v", kind, body, n, err)
			}
			if kind != 1 && kind != 2 {
				decodeErr(t, api.Kind(kind), body)
			}
		}
	}
}

func TestWhatIsNoBody(t *testing.T) {
	five, nine := "\x00\x00\x00\x05", "\x00\x00\x00\x09"
	for _, body := range []string{
		"", "\x00", "\x05", "\x00\x00\x05", "\x00\x00\x00\x00", "\x00\x00\x00\x01",
		five + "\x00", five + "\x01", five + "\x01m", five + "\x01m\x00\x00\x09", five + "\x00" + nine, five + nine,
		five + "\x01m\x00\x00\x00\x01", five + "\x01m\x00\x00\x00\x00", "\x00\x00\x00\x01\x01m" + nine,
		five + "\x02m" + nine, five + "\x01m" + nine + "\x00", five + "\x01m" + nine + "\x01",
		five + "\x01m" + nine + "\x01m" + nine, five + "\x01m" + nine + "\x01a" + nine, five + "\x01m" + nine + "\x00" + nine,
		five + "\x11" + long(17) + nine, five + "\xff" + long(200) + nine, five + "\x10" + long(15) + nine,
	} {
		decodeErr(t, api.KindInner, body)
	}
	for _, body := range []string{
		"\x00", "\x01", "\x01a", "\x01a\x01", "\x00\x00", "\x01a\x00\x00", "\x01b\x00\x01a\x00", "\x01a\x00\x01a\x00",
		"\x11" + long(17) + "\x00", "\x01a\x29" + long(41), five, five + "\x01m" + nine,
	} {
		decodeErr(t, api.KindLeaf, body)
	}
}

// plainBody is a node's bytes by the chapter's words.
func plainBody(n Node) string {
	var b []byte
	if n.Leaf {
		for _, e := range n.Entries {
			b = append(append(b, byte(len(e.Key))), e.Key...)
			b = append(append(b, byte(len(e.Value))), e.Value...)
		}
		return string(b)
	}
	for i, kid := range n.Kids {
		if i > 0 {
			b = append(append(b, byte(len(n.Keys[i-1]))), n.Keys[i-1]...)
		}
		b = append(b, byte(kid>>24), byte(kid>>16), byte(kid>>8), byte(kid))
	}
	return string(b)
}

// plainDecode is Decode by the chapter's words: a node is taken from the bytes, so far as they go, and it is right, fits, and its bytes are just those, or there is none.
func plainDecode(kind api.Kind, body string) (Node, bool) {
	rest := body
	take := func(n int) string {
		n = min(n, len(rest))
		s := rest[:n]
		rest = rest[n:]
		return s
	}
	text := func() string {
		n := 0
		for _, b := range []byte(take(1)) {
			n = int(b)
		}
		return take(n)
	}
	kid := func() int {
		n := 0
		for _, b := range []byte(take(4)) {
			n = 256*n + int(b)
		}
		return n
	}
	n := Node{Leaf: kind == api.KindLeaf}
	switch kind {
	case api.KindLeaf:
		for rest != "" {
			key := text()
			n.Entries = append(n.Entries, api.Entry{Key: key, Value: text()})
		}
	case api.KindInner:
		n.Kids = append(n.Kids, kid())
		for rest != "" {
			n.Keys = append(n.Keys, text())
			n.Kids = append(n.Kids, kid())
		}
	default:
		return Node{}, false
	}
	return n, plainRight(n) && len(body) <= 240 && plainBody(n) == body
}

// plainRight is Right by the chapter's words.
func plainRight(n Node) bool {
	keys := n.Keys
	if n.Leaf {
		for _, e := range n.Entries {
			if len(e.Value) > 40 {
				return false
			}
			keys = append(keys[:len(keys):len(keys)], e.Key)
		}
		if len(n.Kids) != 0 || len(n.Keys) != 0 {
			return false
		}
	} else if len(n.Entries) != 0 || len(n.Kids) < 1 || len(n.Keys)+1 != len(n.Kids) {
		return false
	}
	for _, kid := range n.Kids {
		if kid < 2 || kid > 4294967295 {
			return false
		}
	}
	for _, key := range keys {
		if len(key) < 1 || len(key) > 16 {
			return false
		}
	}
	return slices.IsSorted(keys) && len(slices.Compact(slices.Clone(keys))) == len(keys)
}

// decodesAsPlain tells whether there is a node.
func decodesAsPlain(t testing.TB, kind api.Kind, body string) bool {
	t.Helper()
	n, ok := plainDecode(kind, body)
	if ok {
		decodes(t, kind, body, n)
		encodes(t, n, kind, body)
	} else {
		decodeErr(t, kind, body)
	}
	return ok
}

// tryAll holds all bodies of few bytes, of so many at most, against the plain way, and tells how many are nodes.
func tryAll(t *testing.T, kind api.Kind, begin, bytes string, length int) int {
	count := 0
	var try func(body string)
	try = func(body string) {
		if decodesAsPlain(t, kind, begin+body) {
			count++
		}
		for i := 0; len(body) < length && i < len(bytes); i++ {
			try(body + bytes[i:i+1])
		}
	}
	try("")
	return count
}

func TestAllShortBodies(t *testing.T) {
	if n := tryAll(t, api.KindLeaf, "", "\x00\x01\x02a", 7); n < 100 {
		t.Errorf("just %d of them were leaves", n)
	}
	if n := tryAll(t, api.KindInner, "", "\x00\x01\x02\x05", 7); n < 200 {
		t.Errorf("just %d of them were inner nodes", n)
	}
	if n := tryAll(t, api.KindInner, "\x00\x00\x00\x05", "\x00\x01\x02a", 7); n < 100 {
		t.Errorf("just %d of them were inner nodes of two kids", n)
	}
	if n := tryAll(t, api.KindInner, "\x00\x00\x00\x05\x01b\x00\x00\x00\x06", "\x00\x01\x02c", 7); n < 100 {
		t.Errorf("just %d of them were inner nodes of three kids", n)
	}
}

// A node's body of which one byte is another one, that is cut, or has a byte more.
func TestSpoiltBodies(t *testing.T) {
	for _, n := range rightNodes() {
		kind, body, err := Encode(n)
		if err != api.OK {
			continue
		}
		for i := range len(body) {
			decodesAsPlain(t, kind, body[:i])
			for b := range 256 {
				decodesAsPlain(t, kind, body[:i]+string([]byte{byte(b)})+body[i+1:])
			}
		}
		for b := range 256 {
			decodesAsPlain(t, kind, body+string([]byte{byte(b)}))
		}
	}
}

// Bodies of one kind, read as the other.
func TestOtherKinds(t *testing.T) {
	for _, n := range rightNodes() {
		_, body, _ := Encode(n)
		for kind := range api.Kind(5) {
			decodesAsPlain(t, kind, body)
		}
	}
	r := rand.New(rand.NewSource(12))
	for range 20000 {
		bytes := make([]byte, r.Intn(30))
		for i := range bytes {
			bytes[i] = byte(r.Intn(6))
		}
		decodesAsPlain(t, api.KindLeaf, string(bytes))
		decodesAsPlain(t, api.KindInner, string(bytes))
	}
}

func FuzzDecode(f *testing.F) {
	f.Add(uint8(1), "\x01a\x00\x02ab\x0222")
	f.Add(uint8(2), "\x00\x00\x00\x05\x01m\x00\x00\x00\x09")
	f.Fuzz(func(t *testing.T, kind uint8, body string) { decodesAsPlain(t, api.Kind(kind), body) })
}
