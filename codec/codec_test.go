package codec

import (
	"math"
	"strings"
	"testing"

	"rootstock/api"
)

// The calls keep the signatures that the chapter lists.
var (
	_ func(int, int) (string, api.Errno) = Put
	_ func(string) (string, api.Errno)   = Text
	_ func(...string) string             = Join
	_ func(string) *Reader               = Read
	_ func(*Reader, int) int             = (*Reader).Int
	_ func(*Reader, int) string          = (*Reader).Bytes
	_ func(*Reader) string               = (*Reader).Text
	_ func(*Reader) int                  = (*Reader).Left
	_ func(*Reader) api.Errno            = (*Reader).Err
	_ func(*Reader) api.Errno            = (*Reader).End
)

// greatest is the greatest number of a size.
func greatest(size int) int { return 1<<(8*size) - 1 }

func TestPutTellsTheGreatestByteFirst(t *testing.T) {
	for _, x := range []struct {
		size, n int
		want    string
	}{
		{1, 0, "\x00"}, {1, 1, "\x01"}, {1, 128, "\x80"}, {1, 255, "\xff"},
		{2, 0, "\x00\x00"}, {2, 255, "\x00\xff"}, {2, 256, "\x01\x00"}, {2, 258, "\x01\x02"}, {2, 65535, "\xff\xff"},
		{4, 0, "\x00\x00\x00\x00"}, {4, 258, "\x00\x00\x01\x02"}, {4, 65536, "\x00\x01\x00\x00"},
		{4, 0x01020304, "\x01\x02\x03\x04"}, {4, 1 << 31, "\x80\x00\x00\x00"}, {4, 4294967295, "\xff\xff\xff\xff"},
	} {
		if s, e := Put(x.size, x.n); s != x.want || e != api.OK {
			t.Errorf("Put(%d, %d) = %x, %d", x.size, x.n, s, e)
		}
	}
}

func TestPutRefusesWhatDoesNotFit(t *testing.T) {
	for _, size := range []int{1, 2, 4} {
		for _, n := range []int{greatest(size) + 1, greatest(size) + 2, 1 << 40, 1 << 62, math.MaxInt, -1, -2, -256, math.MinInt} {
			if s, e := Put(size, n); s != "" || e != api.ErrArg {
				t.Errorf("Put(%d, %d) = %x, %d", size, n, s, e)
			}
		}
	}
}

func TestPutRefusesOtherSizes(t *testing.T) {
	for _, size := range []int{math.MinInt, -8, -4, -2, -1, 0, 3, 5, 6, 7, 8, 9, 16, 64, 256, math.MaxInt} {
		for _, n := range []int{math.MinInt, -1, 0, 1, 255, 65536, math.MaxInt} {
			if s, e := Put(size, n); s != "" || e != api.ErrArg {
				t.Errorf("Put(%d, %d) = %x, %d", size, n, s, e)
			}
		}
	}
}

func TestTextTellsItsLengthFirst(t *testing.T) {
	for _, s := range []string{"", "a", "ab", "\x00", "\xff\xfe", "naïve", strings.Repeat("x", 127), strings.Repeat("x", 128), strings.Repeat("x", 254), strings.Repeat("x", 255)} {
		if got, e := Text(s); got != string([]byte{byte(len(s))})+s || e != api.OK {
			t.Errorf("Text of %d bytes = %x, %d", len(s), got, e)
		}
	}
	if s, e := Text("ab"); s != "\x02\x61\x62" || e != api.OK {
		t.Errorf("Text(ab) = %x, %d", s, e)
	}
}

func TestTextCountsBytesAndNotRunes(t *testing.T) {
	if s, e := Text(strings.Repeat("é", 128)); s != "" || e != api.ErrArg {
		t.Errorf("128 runes of 2 bytes: %x, %d", s, e)
	}
}

func TestTextRefusesLongOnes(t *testing.T) {
	for _, n := range []int{256, 257, 511, 512, 65536} {
		if s, e := Text(strings.Repeat("x", n)); s != "" || e != api.ErrArg {
			t.Errorf("Text of %d bytes = %x, %d", n, s, e)
		}
	}
}

func TestJoinPutsAllInOrder(t *testing.T) {
	for _, x := range []struct {
		parts []string
		want  string
	}{
		{nil, ""}, {[]string{}, ""}, {[]string{""}, ""}, {[]string{"a"}, "a"}, {[]string{"b", "a"}, "ba"},
		{[]string{"", "a", "", "\x00", "bc", ""}, "a\x00bc"},
	} {
		if got := Join(x.parts...); got != x.want {
			t.Errorf("Join(%q) = %q", x.parts, got)
		}
	}
}

func TestJoinLeavesItsPartsAsTheyAre(t *testing.T) {
	parts := []string{"a", "b", "c"}
	got := Join(parts[:2]...)
	if parts[0] != "a" || parts[1] != "b" || parts[2] != "c" {
		t.Error("changed", parts)
	}
	parts[0] = "x"
	if got != "ab" {
		t.Error("shared", got)
	}
}

func TestReaderExample(t *testing.T) {
	r := Read("\x01\x02\x03")
	if n := r.Int(2); n != 258 {
		t.Error("Int", n)
	}
	if r.Left() != 1 || r.Err() != api.OK || r.End() != api.ErrCodecRest {
		t.Error("one byte is left", r.Left(), r.Err(), r.End())
	}
	if n := r.Int(2); n != 0 || r.Err() != api.ErrCodecShort || r.End() != api.ErrCodecShort || r.Left() != 1 {
		t.Error("short", n, r.Err(), r.End(), r.Left())
	}
}

func TestEndTellsWhatIsLeftAndKeepsNothing(t *testing.T) {
	r := Read("ab")
	for want := 2; want > 0; want-- {
		if r.End() != api.ErrCodecRest || r.Err() != api.OK || r.Left() != want {
			t.Error(want, r.End(), r.Err(), r.Left())
		}
		if s := r.Bytes(1); s != "ab"[2-want:3-want] {
			t.Error("Bytes behind End", s)
		}
	}
	if r.End() != api.OK || r.Err() != api.OK || r.Left() != 0 {
		t.Error("at the end", r.End(), r.Err(), r.Left())
	}
	if Read("").End() != api.OK {
		t.Error("the empty text has an end at once")
	}
}

func TestIntReadsEachSize(t *testing.T) {
	for _, x := range []struct{ size, want int }{{1, 0xf1}, {2, 0xf1e2}, {4, 0xf1e2d3c4}} {
		r := Read("\xf1\xe2\xd3\xc4\xb5")
		if n := r.Int(x.size); n != x.want || r.Left() != 5-x.size || r.Err() != api.OK {
			t.Errorf("Int(%d) = %x, left %d, %d", x.size, n, r.Left(), r.Err())
		}
	}
}

func TestIntOfTooFewBytes(t *testing.T) {
	for _, size := range []int{1, 2, 4} {
		for have := 0; have <= size; have++ {
			r := Read(strings.Repeat("\x01", have))
			n := r.Int(size)
			if have == size {
				if n == 0 || r.Err() != api.OK || r.End() != api.OK {
					t.Error("all there", size, n, r.Err())
				}
			} else if n != 0 || r.Err() != api.ErrCodecShort || r.Left() != have {
				t.Error("short", size, have, n, r.Err(), r.Left())
			}
		}
	}
}

func TestIntOfAnotherSizeIsAnArgument(t *testing.T) {
	for _, size := range []int{math.MinInt, -4, -1, 0, 3, 5, 8, 64, math.MaxInt} {
		for _, s := range []string{"", "\x01", "\x01\x02\x03\x04\x05\x06\x07\x08\x09"} {
			r := Read(s)
			if n := r.Int(size); n != 0 || r.Err() != api.ErrArg || r.End() != api.ErrArg || r.Left() != len(s) {
				t.Error(size, len(s), n, r.Err(), r.End(), r.Left())
			}
		}
	}
}

func TestBytesAtTheEdges(t *testing.T) {
	for _, x := range []struct {
		n    int
		want string
		err  api.Errno
		left int
	}{
		{0, "", api.OK, 3}, {1, "a", api.OK, 2}, {3, "abc", api.OK, 0}, {4, "", api.ErrCodecShort, 3}, {math.MaxInt, "", api.ErrCodecShort, 3},
		{-1, "", api.ErrArg, 3}, {-3, "", api.ErrArg, 3}, {math.MinInt, "", api.ErrArg, 3},
	} {
		r := Read("abc")
		if s := r.Bytes(x.n); s != x.want || r.Err() != x.err || r.Left() != x.left {
			t.Error(x, s, r.Err(), r.Left())
		}
	}
	if r := Read(""); r.Bytes(0) != "" || r.Err() != api.OK {
		t.Error("no bytes of none")
	}
}

func TestTextIsReadAndCut(t *testing.T) {
	for _, x := range []struct {
		s, want string
		err     api.Errno
		left    int
	}{
		{"\x00", "", api.OK, 0}, {"\x00a", "", api.OK, 1}, {"\x02abc", "ab", api.OK, 1},
		{"", "", api.ErrCodecShort, 0}, {"\x01", "", api.ErrCodecShort, 0}, {"\x05ab", "", api.ErrCodecShort, 2},
		{"\xff" + strings.Repeat("x", 255), strings.Repeat("x", 255), api.OK, 0},
		{"\xff" + strings.Repeat("x", 254), "", api.ErrCodecShort, 254},
	} {
		r := Read(x.s)
		if s := r.Text(); s != x.want || r.Err() != x.err || r.Left() != x.left {
			t.Errorf("%x: %x, %d, left %d", x.s, s, r.Err(), r.Left())
		}
	}
}

// badCalls each bring one error about, in a text of at least one byte.
func badCalls() []struct {
	err api.Errno
	do  func(*Reader)
} {
	return []struct {
		err api.Errno
		do  func(*Reader)
	}{
		{api.ErrArg, func(r *Reader) { r.Int(3) }},
		{api.ErrArg, func(r *Reader) { r.Bytes(-1) }},
		{api.ErrCodecShort, func(r *Reader) { r.Bytes(math.MaxInt) }},
		{api.ErrCodecShort, func(r *Reader) { r.Bytes(r.Left() - 3); r.Int(4) }},
		{api.ErrCodecShort, func(r *Reader) { r.Text() }},
	}
}

func TestBehindAnErrorNothingIsRead(t *testing.T) {
	for i, first := range badCalls() {
		r := Read("\x09abcdef")
		first.do(r)
		left := r.Left()
		for _, size := range []int{1, 2, 4, 3, 0, -1} {
			if n := r.Int(size); n != 0 {
				t.Error(i, "Int", size, n)
			}
		}
		for _, n := range []int{0, 1, left, left + 1, -1} {
			if s := r.Bytes(n); s != "" {
				t.Error(i, "Bytes", n, s)
			}
		}
		if s := r.Text(); s != "" {
			t.Error(i, "Text", s)
		}
		if r.Left() != left || r.Err() != first.err || r.End() != first.err {
			t.Error(i, "the first error stays", r.Left(), r.Err(), r.End())
		}
	}
}

func TestTheFirstErrorStays(t *testing.T) {
	for i, first := range badCalls() {
		for j, second := range badCalls() {
			r := Read("\x09abcdef")
			first.do(r)
			second.do(r)
			if r.Err() != first.err || r.End() != first.err {
				t.Error(i, j, r.Err(), r.End())
			}
		}
	}
}

func TestReadersKnowNothingOfEachOther(t *testing.T) {
	s := "\x01\x02\x03\x04"
	a, b := Read(s), Read(s)
	a.Int(3)
	if b.Err() != api.OK || b.Int(2) != 258 {
		t.Error("an error came over")
	}
	if c := Read(s); c.Err() != api.OK || c.Int(4) != 0x01020304 || b.Left() != 2 {
		t.Error("a place came over")
	}
}

func TestReadersOfNothing(t *testing.T) {
	var none *Reader
	for i, r := range []*Reader{none, {}, Read("")} {
		if r.Left() != 0 || r.Err() != api.OK || r.End() != api.OK || r.Bytes(0) != "" || r.Err() != api.OK {
			t.Error(i, "at the beginning")
		}
		if r.Int(1) != 0 || r.Int(3) != 0 || r.Bytes(1) != "" || r.Bytes(-1) != "" || r.Text() != "" || r.Left() != 0 {
			t.Error(i, "something of nothing")
		}
		if r != nil && (r.Err() != api.ErrCodecShort || r.End() != api.ErrCodecShort) {
			t.Error(i, r.Err(), r.End())
		}
	}
}

// someNumbers are the numbers of a size at and near all its powers of two.
func someNumbers(size int) []int {
	l := []int{0}
	for bit := 0; bit < 8*size; bit++ {
		for _, n := range []int{1<<bit - 1, 1 << bit, 1<<bit + 1, greatest(size) - 1<<bit} {
			if n <= greatest(size) {
				l = append(l, n)
			}
		}
	}
	return append(l, greatest(size))
}

func put(t *testing.T, size, n int) string {
	t.Helper()
	s, e := Put(size, n)
	if e != api.OK {
		t.Fatalf("Put(%d, %d): %d", size, n, e)
	}
	return s
}

func TestWrittenNumbersAreReadAgain(t *testing.T) {
	for _, size := range []int{1, 2, 4} {
		for _, n := range someNumbers(size) {
			r := Read(put(t, size, n))
			if got := r.Int(size); got != n || r.End() != api.OK {
				t.Error(size, n, got, r.End())
			}
		}
	}
}

func TestReadNumbersAreWrittenAgain(t *testing.T) {
	for n := range 1 << 16 {
		s := string([]byte{byte(n >> 8), byte(n)})
		if got := put(t, 2, Read(s).Int(2)); got != s {
			t.Fatalf("%x: %x", s, got)
		}
		if got := put(t, 1, Read(s).Int(1)); got != s[:1] {
			t.Fatalf("%x: %x", s[:1], got)
		}
		for _, long := range []string{s + "\x00\xff", "\x80\x01" + s, s + s} {
			if got := put(t, 4, Read(long).Int(4)); got != long {
				t.Fatalf("%x: %x", long, got)
			}
		}
	}
}

func TestNumbersAreOrderedAsTheirBytes(t *testing.T) {
	for _, size := range []int{1, 2, 4} {
		for _, a := range someNumbers(size) {
			for _, b := range someNumbers(size) {
				if (a < b) != (put(t, size, a) < put(t, size, b)) {
					t.Error(size, a, b)
				}
			}
		}
	}
}

func TestWrittenTextsAreReadAgain(t *testing.T) {
	for n := range 256 {
		s := strings.Repeat(string([]byte{byte(n)}), n)
		w, e := Text(s)
		if e != api.OK {
			t.Fatal(n, e)
		}
		r := Read(w)
		got := r.Text()
		if again, _ := Text(got); got != s || r.End() != api.OK || again != w {
			t.Error(n, got, r.End(), again)
		}
	}
}

func TestAllThatIsJoinedIsReadAgain(t *testing.T) {
	text, _ := Text("ab\x00c")
	empty, _ := Text("")
	r := Read(Join(put(t, 4, 70000), text, put(t, 1, 9), empty, "raw", put(t, 2, 513)))
	if r.Int(4) != 70000 || r.Text() != "ab\x00c" || r.Int(1) != 9 || r.Text() != "" || r.Bytes(3) != "raw" || r.Int(2) != 513 || r.End() != api.OK {
		t.Error("not as it was", r.Left(), r.Err())
	}
}
