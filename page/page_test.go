package page

import (
	"hash/crc32"
	"math"
	"math/rand"
	"strings"
	"testing"

	"rootstock/api"
)

// The calls keep the signatures that the chapter lists.
var (
	_ func(int, api.Kind, string) (string, api.Errno) = Seal
	_ func(int, string) (api.Kind, string, api.Errno) = Open
	_ func(string) bool                               = Check
)

// greatest is the greatest number that a page has.
const greatest = 4294967295

// goodNumbers are numbers that a page may have.
func goodNumbers() []int {
	return []int{0, 1, 2, 7, 255, 256, 258, 65535, 65536, 0x01020304, 1<<31 - 1, 1 << 31, greatest - 1, greatest}
}

// badNumbers are numbers that no page has; some are a page's number modulo 4294967296.
func badNumbers() []int {
	return []int{-1, -2, -256, -greatest, -greatest - 1, greatest + 1, greatest + 2, greatest + 8, 1 << 33, 1 << 62, math.MinInt, math.MaxInt}
}

// put is a number as bytes, by the chapter's words alone.
func put(size, n int) string {
	b := make([]byte, size)
	for i := size - 1; i >= 0; i-- {
		b[i] = byte(n % 256)
		n /= 256
	}
	return string(b)
}

// checked is 252 bytes with their check ahead, worked out by another sum than the program's.
func checked(rest string) string {
	return put(4, int(crc32.ChecksumIEEE([]byte(rest)))) + rest
}

// bytesOf is a page by the chapter's words alone.
func bytesOf(id int, kind api.Kind, body string) string {
	s := put(4, id) + put(1, int(kind)) + "\x00" + put(2, len(body)) + "\x00\x00\x00\x00" + body
	for len(s) < 252 {
		s += "\x00"
	}
	return checked(s)
}

func sealed(t testing.TB, id int, kind api.Kind, body string) string {
	t.Helper()
	s, e := Seal(id, kind, body)
	if e != api.OK {
		t.Fatalf("Seal(%d, %d, %d bytes): %d", id, kind, len(body), e)
	}
	return s
}

// opens wants a page to be opened as a kind and a body.
func opens(t testing.TB, id int, s string, kind api.Kind, body string) {
	t.Helper()
	if k, b, e := Open(id, s); k != kind || b != body || e != api.OK {
		t.Errorf("Open(%d, %x) = %d, %x, %d", id, s, k, b, e)
	}
}

// corrupt wants no page to be opened, and nothing to be told beside that.
func corrupt(t testing.TB, id int, s string) {
	t.Helper()
	if k, b, e := Open(id, s); k != api.KindNone || b != "" || e != api.ErrCorrupt {
		t.Errorf("Open(%d, %x) = %d, %x, %d", id, s, k, b, e)
	}
}

// over is s with x put over it by XOR, from place i on.
func over(s string, i int, x string) string {
	b := []byte(s)
	for k := range len(x) {
		b[i+k] ^= x[k]
	}
	return string(b)
}

func randomText(r *rand.Rand, n int) string {
	b := make([]byte, n)
	r.Read(b)
	return string(b)
}

func TestExample(t *testing.T) {
	s := sealed(t, 7, api.KindLeaf, "ab")
	if len(s) != 256 || s[4:18] != "\x00\x00\x00\x07\x01\x00\x00\x02\x00\x00\x00\x00\x61\x62" || strings.Trim(s[18:], "\x00") != "" {
		t.Errorf("%x", s)
	}
	opens(t, 7, s, api.KindLeaf, "ab")
	corrupt(t, 8, s)
}

func TestSealWritesEachPartAtItsPlace(t *testing.T) {
	for _, id := range goodNumbers() {
		for _, kind := range []api.Kind{api.KindNone, api.KindLeaf, api.KindInner, api.KindChain, 4, 127, 128, 255} {
			for _, body := range []string{"", "a", "\x00", "\x00ab\x00\x00", "naïve", strings.Repeat("\xff", 239), strings.Repeat("x", 240), strings.Repeat("\x00", 240)} {
				if s := sealed(t, id, kind, body); s != bytesOf(id, kind, body) {
					t.Errorf("Seal(%d, %d, %q) = %x", id, kind, body, s)
				}
			}
		}
	}
}

func TestBodiesOfAllLengths(t *testing.T) {
	r := rand.New(rand.NewSource(1))
	for n := range 241 {
		body := randomText(r, n)
		s := sealed(t, n, api.KindInner, body)
		if s != bytesOf(n, api.KindInner, body) || len(s) != 256 || !Check(s) {
			t.Errorf("%d bytes: %x", n, s)
		}
		opens(t, n, s, api.KindInner, body)
	}
}

func TestSealRefusesLongBodies(t *testing.T) {
	for _, n := range []int{241, 242, 252, 256, 65535, 65536, 65536 + 2, 1 << 20} {
		for _, fill := range []string{"x", "\x00"} {
			if s, e := Seal(7, api.KindLeaf, strings.Repeat(fill, n)); s != "" || e != api.ErrPageLong {
				t.Errorf("%d bytes: %x, %d", n, s, e)
			}
		}
	}
	if s, e := Seal(7, api.KindLeaf, strings.Repeat("é", 121)); s != "" || e != api.ErrPageLong {
		t.Errorf("121 runes of 2 bytes: %x, %d", s, e)
	}
}

func TestSealRefusesOtherNumbers(t *testing.T) {
	for _, id := range badNumbers() {
		for _, body := range []string{"", "ab", strings.Repeat("x", 240)} {
			if s, e := Seal(id, api.KindLeaf, body); s != "" || e != api.ErrArg {
				t.Errorf("Seal(%d, .., %d bytes) = %x, %d", id, len(body), s, e)
			}
		}
	}
}

func TestALongBodyIsToldAheadOfANumber(t *testing.T) {
	for _, id := range badNumbers() {
		if s, e := Seal(id, api.KindLeaf, strings.Repeat("x", 241)); s != "" || e != api.ErrPageLong {
			t.Errorf("Seal(%d) = %x, %d", id, s, e)
		}
	}
}

func TestWhatIsSealedIsOpened(t *testing.T) {
	r := rand.New(rand.NewSource(2))
	for kind := range 256 {
		for _, id := range goodNumbers() {
			body := randomText(r, r.Intn(241))
			opens(t, id, sealed(t, id, api.Kind(kind), body), api.Kind(kind), body)
		}
	}
}

func TestNoughtsAtABodysEndStay(t *testing.T) {
	for n := range 241 {
		body := strings.Repeat("\x00", n)
		opens(t, 9, sealed(t, 9, api.KindChain, body), api.KindChain, body)
	}
}

func TestAPageWithAnotherNumberIsNotOpened(t *testing.T) {
	for _, id := range goodNumbers() {
		s := sealed(t, id, api.KindLeaf, "ab")
		for _, other := range append(goodNumbers(), badNumbers()...) {
			if other != id {
				corrupt(t, other, s)
			}
		}
		for _, wrapped := range []int{id - greatest - 1, id + greatest + 1} {
			corrupt(t, wrapped, s)
		}
	}
}

func TestNothingIsOpenedByANumberThatNoPageHas(t *testing.T) {
	for _, id := range badNumbers() {
		for _, s := range []string{"", strings.Repeat("\x00", 256), bytesOf(0, 0, ""), bytesOf(greatest, api.KindLeaf, "ab"), bytesOf(1, 0, "")} {
			corrupt(t, id, s)
		}
	}
}

func TestTextsThatAreTooShortOrTooLong(t *testing.T) {
	for _, body := range []string{"", "ab", strings.Repeat("x", 240), strings.Repeat("\x00", 240)} {
		s := sealed(t, 7, api.KindLeaf, body)
		for n := range len(s) {
			for _, part := range []string{s[:n], s[256-n:]} {
				corrupt(t, 7, part)
				if Check(part) {
					t.Errorf("Check of %d bytes", n)
				}
			}
		}
		for _, more := range []string{"\x00", "x", "\x00\x00\x00\x00", s, strings.Repeat("\x00", 1<<20)} {
			for _, long := range []string{s + more, more + s} {
				corrupt(t, 7, long)
				if Check(long) {
					t.Errorf("Check of %d bytes", len(long))
				}
			}
		}
	}
}

// A text of another length is no page even if its first four bytes are the sum of the others.
func TestCheckAsksForAllBytes(t *testing.T) {
	for n := range 600 {
		for _, fill := range []string{"\x00", "x"} {
			s := checked(strings.Repeat(fill, n))
			if Check(s) != (len(s) == 256) {
				t.Errorf("Check of %d bytes: %v", len(s), Check(s))
			}
		}
	}
}

func TestCheckAsksForTheCheckAlone(t *testing.T) {
	r := rand.New(rand.NewSource(3))
	for range 200 {
		s := checked(randomText(r, 252))
		if !Check(s) {
			t.Errorf("%x", s)
		}
		corrupt(t, 7, s)
	}
	for _, s := range []string{strings.Repeat("\x00", 256), strings.Repeat("\xff", 256), strings.Repeat("x", 256)} {
		if Check(s) {
			t.Errorf("%x", s)
		}
		corrupt(t, 0, s)
	}
}

// The check of these is right: they are no pages for what else is wrong with them.
func TestWhatIsCheckedButNotSealedIsNotOpened(t *testing.T) {
	for _, body := range []string{"", "ab", strings.Repeat("x", 239), strings.Repeat("x", 240)} {
		rest := bytesOf(7, api.KindLeaf, body)[4:]
		var wrong []string
		for _, i := range []int{5, 8, 9, 10, 11} {
			for b := 1; b < 256; b++ {
				wrong = append(wrong, over(rest, i, string([]byte{byte(b)})))
			}
		}
		for i := 12 + len(body); i < 252; i++ {
			wrong = append(wrong, over(rest, i, "\x01"), over(rest, i, "\x80"))
		}
		for n := range 65536 {
			if n > 240 || n < len(body) {
				wrong = append(wrong, rest[:6]+put(2, n)+rest[8:])
			}
		}
		for _, x := range wrong {
			corrupt(t, 7, checked(x))
		}
		if s := checked(wrong[0]); !Check(s) {
			t.Errorf("Check of %x", s)
		}
	}
}

// Such a change makes another page, that may be opened, since Seal tells it too.
func TestWhatSealTellsOfAnotherBodyOrKindIsOpened(t *testing.T) {
	rest := bytesOf(7, api.KindLeaf, "ab")[4:]
	for n := 2; n <= 240; n++ {
		opens(t, 7, checked(rest[:6]+put(2, n)+rest[8:]), api.KindLeaf, "ab"+strings.Repeat("\x00", n-2))
	}
	for kind := range 256 {
		opens(t, 7, checked(rest[:4]+put(1, kind)+rest[5:]), api.Kind(kind), "ab")
	}
	for i := 12; i < 14; i++ {
		x := over(rest, i, "\xff")
		opens(t, 7, checked(x), api.KindLeaf, x[12:14])
	}
}

func TestOneByteTells(t *testing.T) {
	for _, body := range []string{"ab", strings.Repeat("\x5a", 240)} {
		s := sealed(t, 7, api.KindLeaf, body)
		for i := range len(s) {
			for b := 1; b < 256; b++ {
				other := over(s, i, string([]byte{byte(b)}))
				corrupt(t, 7, other)
				if Check(other) {
					t.Errorf("Check with byte %d XOR %d", i, b)
				}
			}
		}
	}
}

func TestFourBytesInARowTell(t *testing.T) {
	r := rand.New(rand.NewSource(4))
	for _, body := range []string{"", "ab", randomText(r, 100), randomText(r, 240)} {
		id := goodNumbers()[r.Intn(len(goodNumbers()))]
		s := sealed(t, id, api.KindInner, body)
		for i := range len(s) {
			for range 60 {
				x := randomText(r, 1+r.Intn(min(4, len(s)-i)))
				if other := over(s, i, x); other != s {
					corrupt(t, id, other)
				}
			}
		}
	}
}

// Where the check's end and the number's beginning are changed at once, the sum alone may not tell: some such changes go into it just as they stand. The number tells then.
func TestFourBytesOverTheChecksEndTell(t *testing.T) {
	s := sealed(t, 7, api.KindLeaf, "ab")
	right := 0
	for split := 1; split <= 2; split++ {
		for n := 1; n < 1<<(8*split); n++ {
			other := checked(over(s, 4, put(split, n))[4:])
			if other[:split] == s[:split] {
				corrupt(t, 7, other)
				if Check(other) {
					right++
				}
			}
		}
	}
	if right == 0 {
		t.Error("no such change was tried")
	}
}

func TestCallsKeepNothing(t *testing.T) {
	want := sealed(t, 7, api.KindLeaf, "ab")
	Seal(-1, 9, "zz")
	Seal(8, 9, strings.Repeat("z", 241))
	corrupt(t, 8, want)
	corrupt(t, 7, "")
	if got := sealed(t, 7, api.KindLeaf, "ab"); got != want {
		t.Errorf("%x, and then %x", want, got)
	}
	opens(t, 7, want, api.KindLeaf, "ab")
}
