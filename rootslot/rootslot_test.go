package rootslot

import (
	"hash/crc32"
	"math"
	"math/rand"
	"strings"
	"testing"

	"rootstock/api"
	"rootstock/pagefile"
)

// The calls keep the signatures that the chapter lists.
var (
	_ func(api.Root) (string, api.Errno)         = Encode
	_ func(string) (api.Root, bool)              = Decode
	_ func(string, string) (api.Root, api.Errno) = Pick
	_ func(*pagefile.File) (api.Root, api.Errno) = Load
	_ func(*pagefile.File, api.Root) api.Errno   = Store
)

// greatest is the greatest number that a root may have.
const greatest = 4294967295

// goodNumbers are numbers that a root may have; but 0 is no Epoch.
func goodNumbers() []int {
	return []int{0, 1, 2, 3, 9, 255, 256, 258, 65535, 65536, 0x01020304, 1<<31 - 1, 1 << 31, greatest - 1, greatest}
}

// badNumbers are numbers that no root has; some are a root's number modulo 4294967296.
func badNumbers() []int {
	return []int{-1, -2, -256, -greatest, -greatest - 1, greatest + 1, greatest + 2, greatest + 8, 1 << 33, 1 << 62, math.MinInt, math.MinInt + 1, math.MaxInt}
}

// put is a number in four bytes, by the chapter's words alone.
func put(n int) string {
	b := make([]byte, 4)
	for i := 3; i >= 0; i-- {
		b[i] = byte(n % 256)
		n /= 256
	}
	return string(b)
}

// take is the number that four bytes are.
func take(s string) int {
	n := 0
	for i := range 4 {
		n = n*256 + int(s[i])
	}
	return n
}

// noughts is so many bytes of 0.
func noughts(n int) string {
	return strings.Repeat("\x00", n)
}

// closed is what stands at a slot's beginning, filled up, with its check, by another sum than the program's, and an end.
func closed(begin, end string) string {
	begin += noughts(248 - len(begin))
	return begin + put(int(crc32.ChecksumIEEE([]byte(begin)))) + end
}

// bytesOf is a slot by the chapter's words alone.
func bytesOf(r api.Root) string {
	return closed(put(r.Epoch)+put(r.Pages)+put(r.Catalog)+put(r.Free)+put(r.Next), put(r.Epoch))
}

// over is s with x put over it by XOR, from place i on.
func over(s string, i int, x string) string {
	b := []byte(s)
	for k := range len(x) {
		b[i+k] ^= x[k]
	}
	return string(b)
}

// with is a root all of whose numbers are 1, but for the one at a place.
func with(place, n int) api.Root {
	r := api.Root{Epoch: 1, Pages: 1, Catalog: 1, Free: 1, Next: 1}
	*[]*int{&r.Epoch, &r.Pages, &r.Catalog, &r.Free, &r.Next}[place] = n
	return r
}

// someRoots are roots with epochs that share bytes at their beginning, or their end, or nowhere.
func someRoots() []api.Root {
	var out []api.Root
	for i, epoch := range []int{1, 2, 3, 255, 256, 257, 511, 0x01000001, 0x01020304, 0x01020305, 0x01020404, 0x02020304, 1 << 31, 1<<31 + 1, greatest - 1, greatest} {
		out = append(out, api.Root{Epoch: epoch, Pages: i, Catalog: i * i, Free: epoch, Next: greatest - i})
	}
	return append(out, api.Root{Epoch: 1}, api.Root{Epoch: 2}, api.Root{Epoch: greatest, Pages: greatest, Catalog: greatest, Free: greatest, Next: greatest})
}

func encoded(t testing.TB, r api.Root) string {
	t.Helper()
	s, e := Encode(r)
	if e != api.OK {
		t.Fatalf("Encode(%v): %d", r, e)
	}
	return s
}

func refused(t testing.TB, r api.Root) {
	t.Helper()
	if s, e := Encode(r); s != "" || e != api.ErrArg {
		t.Errorf("Encode(%v) = %x, %d", r, s, e)
	}
}

func decodes(t testing.TB, s string, want api.Root) {
	t.Helper()
	if r, ok := Decode(s); r != want || !ok {
		t.Errorf("Decode(%x) = %v, %v, want %v", s, r, ok, want)
	}
}

// rootless wants bytes to have no root, and nothing to be told beside that.
func rootless(t testing.TB, s string) {
	t.Helper()
	if r, ok := Decode(s); r != (api.Root{}) || ok {
		t.Errorf("Decode(%x) = %v, %v", s, r, ok)
	}
}

func picks(t testing.TB, a, b string, want api.Root, err api.Errno) {
	t.Helper()
	if r, e := Pick(a, b); r != want || e != err {
		t.Errorf("Pick(%x, %x) = %v, %d, want %v, %d", a, b, r, e, want, err)
	}
}

func TestExamples(t *testing.T) {
	r := api.Root{Epoch: 3, Pages: 9}
	s := encoded(t, r)
	if s[:8] != "\x00\x00\x00\x03\x00\x00\x00\x09" || s[8:248] != noughts(240) || s[252:] != "\x00\x00\x00\x03" || len(s) != 256 {
		t.Errorf("%x", s)
	}
	picks(t, noughts(256), s, r, api.OK)
	picks(t, s, noughts(256), r, api.OK)
}

// The fourth example of the whole.
func TestABeginningOfOneEpochAndAnEndOfAnotherOne(t *testing.T) {
	old, young := bytesOf(api.Root{Epoch: 2}), bytesOf(api.Root{Epoch: 4})
	for cut := 4; cut <= 252; cut++ {
		rootless(t, young[:cut]+old[cut:])
	}
	rootless(t, young[:252]+put(2))
}

func TestEncodeWritesEachNumberAtItsPlace(t *testing.T) {
	s := encoded(t, api.Root{Epoch: 0x01020304, Pages: 0x11121314, Catalog: 0x21222324, Free: 0x31323334, Next: 0x41424344})
	begin := "\x01\x02\x03\x04\x11\x12\x13\x14\x21\x22\x23\x24\x31\x32\x33\x34\x41\x42\x43\x44" + noughts(228)
	if s[:248] != begin || s[252:] != "\x01\x02\x03\x04" || len(s) != 256 {
		t.Errorf("%x", s)
	}
	if sum := int(crc32.ChecksumIEEE([]byte(begin))); take(s[248:252]) != sum {
		t.Errorf("the check is %x, want %x", s[248:252], sum)
	}
}

func TestWhatIsEncodedIsDecoded(t *testing.T) {
	for _, r := range someRoots() {
		if s := encoded(t, r); s != bytesOf(r) {
			t.Errorf("Encode(%v) = %x", r, s)
		}
		decodes(t, encoded(t, r), r)
	}
	for place := range 5 {
		for _, n := range goodNumbers() {
			r := with(place, n)
			if r.Epoch == 0 {
				continue
			}
			if s := encoded(t, r); s != bytesOf(r) {
				t.Errorf("Encode(%v) = %x", r, s)
			}
			decodes(t, encoded(t, r), r)
		}
	}
}

func TestNumbersThatNoRootHas(t *testing.T) {
	for _, n := range badNumbers() {
		for place := range 5 {
			refused(t, with(place, n))
		}
		refused(t, api.Root{Pages: n})
		refused(t, api.Root{Epoch: n, Pages: -n, Catalog: n, Free: -n, Next: n})
		refused(t, api.Root{Epoch: n, Pages: n, Catalog: n, Free: n, Next: n})
	}
}

func TestNoRootHasTheEpochNought(t *testing.T) {
	refused(t, api.Root{})
	for _, n := range goodNumbers() {
		refused(t, api.Root{Pages: n})
		refused(t, api.Root{Pages: n, Catalog: n, Free: n, Next: n})
		rootless(t, bytesOf(api.Root{Pages: n, Catalog: n, Free: n, Next: n}))
	}
	rootless(t, noughts(256))
}

func TestASlotHasJustItsBytes(t *testing.T) {
	s := bytesOf(api.Root{Epoch: 3, Pages: 9, Catalog: 4, Free: 5, Next: 6})
	for n := range len(s) {
		rootless(t, s[:n])
		rootless(t, s[n+1:])
	}
	for _, x := range []string{"\x00", "\x03", put(3), s, noughts(256), noughts(1 << 20)} {
		rootless(t, s+x)
		rootless(t, x+s)
	}
	decodes(t, s, api.Root{Epoch: 3, Pages: 9, Catalog: 4, Free: 5, Next: 6})
}

func TestOneByteTells(t *testing.T) {
	for _, r := range []api.Root{{Epoch: 3, Pages: 9}, {Epoch: 0x5a5a5a5a, Pages: greatest, Catalog: 0x01020304, Free: 7, Next: 1}} {
		s := bytesOf(r)
		for i := range len(s) {
			for b := 1; b < 256; b++ {
				rootless(t, over(s, i, string([]byte{byte(b)})))
			}
		}
	}
}

func TestFourBytesInARowTell(t *testing.T) {
	r := rand.New(rand.NewSource(7))
	for _, root := range someRoots() {
		s := bytesOf(root)
		for range 2000 {
			x := make([]byte, 1+r.Intn(4))
			r.Read(x)
			i := r.Intn(len(s) - len(x) + 1)
			if other := over(s, i, string(x)); other != s {
				rootless(t, other)
			}
		}
	}
}

// Such bytes are spoilt in spite of a check that is right.
func TestTheCheckAloneIsNotEnough(t *testing.T) {
	begin := bytesOf(api.Root{Epoch: 3, Pages: 9})[:248]
	for i := 20; i < 248; i++ {
		rootless(t, closed(over(begin, i, "\x01"), put(3)))
		rootless(t, closed(over(begin, i, "\x80"), put(3)))
	}
	for _, n := range append(goodNumbers(), 0x03000000, 0x00030000, 0x00000300) {
		if n != 3 {
			rootless(t, closed(begin, put(n)))
		}
	}
	for i := range 4 {
		rootless(t, closed(over(begin, i, "\x10"), put(3)))
	}
}

// Such a change of the numbers, with its check, is another root.
func TestOtherNumbersAreAnotherRoot(t *testing.T) {
	begin := bytesOf(api.Root{Epoch: 3, Pages: 9})[:248]
	decodes(t, closed(over(begin, 4, "\x80"), put(3)), api.Root{Epoch: 3, Pages: 1<<31 + 9})
	decodes(t, closed(over(begin, 11, "\x07"), put(3)), api.Root{Epoch: 3, Pages: 9, Catalog: 7})
	decodes(t, closed(over(begin, 12, "\xff"), put(3)), api.Root{Epoch: 3, Pages: 9, Free: 255 << 24})
	decodes(t, closed(over(begin, 19, "\x01"), put(3)), api.Root{Epoch: 3, Pages: 9, Next: 1})
	decodes(t, closed(over(begin, 0, "\x01"), put(1<<24+3)), api.Root{Epoch: 1<<24 + 3, Pages: 9})
}

func TestPickTakesTheGreaterEpoch(t *testing.T) {
	for _, a := range someRoots() {
		for _, b := range someRoots() {
			want := a
			if b.Epoch > a.Epoch {
				want = b
			}
			picks(t, bytesOf(a), bytesOf(b), want, api.OK)
		}
	}
}

func TestOfTwoWithTheSameEpochTheFirstIsPicked(t *testing.T) {
	a, b := api.Root{Epoch: 5, Pages: 1, Next: 2}, api.Root{Epoch: 5, Pages: 9, Next: 9}
	picks(t, bytesOf(a), bytesOf(b), a, api.OK)
	picks(t, bytesOf(b), bytesOf(a), b, api.OK)
}

func TestPickPassesOverWhatIsNoRoot(t *testing.T) {
	wrong := []string{"", "\x00", "text", noughts(256), noughts(255), strings.Repeat("\xff", 256), closed(put(9), put(8)), bytesOf(api.Root{Pages: 4}), bytesOf(api.Root{Epoch: greatest})[:255], over(bytesOf(api.Root{Epoch: greatest}), 100, "\x01")}
	for _, a := range wrong {
		for _, b := range wrong {
			picks(t, a, b, api.Root{}, api.ErrNoRoot)
		}
		for _, r := range someRoots() {
			picks(t, a, bytesOf(r), r, api.OK)
			picks(t, bytesOf(r), a, r, api.OK)
		}
	}
}

// torn is what a slot has of which the first bytes are of one root, and the rest of another one, by the chapter's words alone: the root of just those bytes.
func torn(old, young api.Root, cut int) (api.Root, bool) {
	s := bytesOf(young)[:cut] + bytesOf(old)[cut:]
	switch s {
	case bytesOf(old):
		return old, true
	case bytesOf(young):
		return young, true
	}
	return api.Root{}, false
}

func TestATornSlotHasTheOneRootOrTheOtherOneOrNone(t *testing.T) {
	for _, old := range someRoots() {
		for _, young := range someRoots() {
			if old.Epoch == young.Epoch {
				continue
			}
			for cut := range 257 {
				r, ok := Decode(bytesOf(young)[:cut] + bytesOf(old)[cut:])
				if want, there := torn(old, young, cut); r != want || ok != there {
					t.Errorf("%v over %v, cut at %d: %v, %v, want %v, %v", young, old, cut, r, ok, want, there)
				}
				if cut > 3 && cut < 253 && ok || cut == 0 && r != old || cut == 256 && r != young {
					t.Errorf("%v over %v, cut at %d: %v, %v", young, old, cut, r, ok)
				}
			}
		}
	}
}

// A root over a slot that never had one: nothing else than that root comes of it.
func TestATornFirstRoot(t *testing.T) {
	for _, r := range someRoots() {
		for cut := range 257 {
			s := bytesOf(r)[:cut] + noughts(256-cut)
			if s == bytesOf(r) {
				decodes(t, s, r)
			} else {
				rootless(t, s)
			}
		}
	}
}

func TestCallsKeepNothing(t *testing.T) {
	r := api.Root{Epoch: 3, Pages: 9}
	want := encoded(t, r)
	refused(t, api.Root{})
	refused(t, api.Root{Epoch: 8, Next: -1})
	encoded(t, api.Root{Epoch: greatest, Pages: greatest, Catalog: greatest, Free: greatest, Next: greatest})
	rootless(t, "")
	picks(t, "", "", api.Root{}, api.ErrNoRoot)
	if got := encoded(t, r); got != want {
		t.Errorf("%x, and then %x", want, got)
	}
	decodes(t, want, r)
}
