package crc

import (
	"hash/crc32"
	"math"
	"math/rand"
	"strings"
	"testing"
)

// plainStep is the chapter's text, word by word: eight halvings, no table.
func plainStep(c int, b byte) int {
	c = ((c % 4294967296) + 4294967296) % 4294967296
	c ^= int(b)
	for range 8 {
		odd := c%2 == 1
		c /= 2
		if odd {
			c ^= 3988292384
		}
	}
	return c
}

func plainSum(parts ...string) int {
	c := 4294967295
	for _, b := range []byte(strings.Join(parts, "")) {
		c = plainStep(c, b)
	}
	return c ^ 4294967295
}

func randomText(r *rand.Rand, n int) string {
	b := make([]byte, n)
	r.Read(b)
	return string(b)
}

func TestExamples(t *testing.T) {
	for _, c := range []struct {
		parts []string
		want  int
	}{
		{nil, 0},
		{[]string{}, 0},
		{[]string{""}, 0},
		{[]string{"", "", ""}, 0},
		{[]string{"123456789"}, 3421780262},
		{[]string{"1234", "56789"}, 3421780262},
		{[]string{"", "123456789", ""}, 3421780262},
		{[]string{"1", "2", "3", "4", "5", "6", "7", "8", "9"}, 3421780262},
		{[]string{"\x00"}, 3523407757},
		{[]string{"\xff"}, 4278190080},
		{[]string{"\x00\x00\x00\x00"}, 558161692},
		{[]string{"\xff\xff\xff\xff"}, 4294967295},
	} {
		if got := Sum(c.parts...); got != c.want {
			t.Errorf("Sum(%q) = %d, want %d", c.parts, got, c.want)
		}
	}
	if Sum() != 0 {
		t.Error("Sum()")
	}
}

func TestTableIsHalfAByte(t *testing.T) {
	for n, cell := range halves {
		c := n
		for range 4 {
			odd := c%2 == 1
			c /= 2
			if odd {
				c ^= 3988292384
			}
		}
		if int(cell) != c {
			t.Errorf("cell %d is %#x, want %#x", n, cell, c)
		}
	}
}

// Step is linear over XOR, so that each single bit, and all bytes, tell it whole; random ones besides.
func TestStepIsPlainStep(t *testing.T) {
	cs := []int{0, 1, 2, 3, 255, 256, 257, 3988292384, 4294967294, 4294967295, 0x55555555, 0xaaaaaaaa}
	for i := range 32 {
		cs = append(cs, 1<<i)
	}
	r := rand.New(rand.NewSource(2))
	for range 200 {
		cs = append(cs, int(r.Uint32()))
	}
	for _, c := range cs {
		for b := range 256 {
			if got, want := Step(c, byte(b)), plainStep(c, byte(b)); got != want {
				t.Fatalf("Step(%d, %d) = %d, want %d", c, b, got, want)
			}
		}
	}
}

func TestStepEdges(t *testing.T) {
	for _, c := range []struct {
		c    int
		b    byte
		want int
	}{
		{0, 0, 0},
		{1, 1, 0},
		{255, 255, 0},
		{0, 128, 3988292384},
		{128, 0, 3988292384},
		{256, 0, 1},
		{1 << 31, 0, 1 << 23},
		{4294967295, 255, 16777215},
	} {
		if got := Step(c.c, c.b); got != c.want {
			t.Errorf("Step(%d, %d) = %d, want %d", c.c, c.b, got, c.want)
		}
	}
}

func TestStepCountsModulo(t *testing.T) {
	const m = 4294967296
	for _, c := range []struct{ c, same int }{
		{-1, m - 1},
		{-m, 0},
		{-m - 1, m - 1},
		{-m + 1, 1},
		{m, 0},
		{m + 1, 1},
		{2*m - 1, m - 1},
		{-3988292384, m - 3988292384},
		{12345*m + 678, 678},
		{-12345*m + 678, 678},
		{math.MaxInt, m - 1},
		{math.MinInt, 0},
		{math.MinInt + 1, 1},
		{math.MaxInt - 1, m - 2},
	} {
		for b := range 256 {
			got := Step(c.c, byte(b))
			if got != Step(c.same, byte(b)) || got != plainStep(c.c, byte(b)) {
				t.Errorf("Step(%d, %d) = %d, another one than of %d", c.c, b, got, c.same)
			}
			if got < 0 || got >= m {
				t.Errorf("Step(%d, %d) = %d is out of range", c.c, b, got)
			}
		}
	}
}

func TestSumIsTheStepsOfAllBytes(t *testing.T) {
	r := rand.New(rand.NewSource(1))
	for n := range 600 {
		s := randomText(r, n)
		c := 4294967295
		for i := range len(s) {
			c = Step(c, s[i])
		}
		if got := Sum(s); got != c^4294967295 || got != plainSum(s) || got != int(crc32.ChecksumIEEE([]byte(s))) {
			t.Fatalf("Sum of %d bytes: %d", n, got)
		}
	}
}

func TestSumOfBytesThatAreNoRunes(t *testing.T) {
	for _, s := range []string{"\xff\xfe", "é", "\xc3", "日本", "\xed\xa0\x80", "a\x80b"} {
		if Sum(s) != int(crc32.ChecksumIEEE([]byte(s))) {
			t.Errorf("Sum(%q)", s)
		}
	}
}

func TestCutsDoNotTell(t *testing.T) {
	r := rand.New(rand.NewSource(3))
	for n := range 60 {
		s := randomText(r, n)
		for i := 0; i <= n; i++ {
			if Sum(s[:i], s[i:]) != Sum(s) {
				t.Fatalf("%d bytes cut at %d", n, i)
			}
		}
		var parts []string
		for rest := s; len(rest) > 0; {
			k := r.Intn(min(5, len(rest)) + 1)
			parts = append(parts, rest[:k])
			rest = rest[k:]
		}
		if Sum(parts...) != Sum(s) {
			t.Fatalf("%d bytes in %d parts", n, len(parts))
		}
	}
}

func TestOrderOfPartsTells(t *testing.T) {
	if Sum("1234", "56789") == Sum("56789", "1234") {
		t.Error("the parts' order does not tell")
	}
}

func TestPartsStayAsTheyAre(t *testing.T) {
	parts := []string{"a", "", "bc"}
	first := Sum(parts...)
	if parts[0] != "a" || parts[1] != "" || parts[2] != "bc" || len(parts) != 3 {
		t.Errorf("parts are %q", parts)
	}
	if Sum(parts...) != first {
		t.Error("a second Sum is another one")
	}
}

// over is s with x put over four bytes from i on, by XOR; what is behind the end is left out.
func over(s string, i int, x uint32) string {
	b := []byte(s)
	for k := range 4 {
		if i+k < len(b) {
			b[i+k] ^= byte(x >> (8 * k))
		}
	}
	return string(b)
}

func TestFourBytesInARowTell(t *testing.T) {
	r := rand.New(rand.NewSource(4))
	for _, n := range []int{1, 2, 3, 4, 5, 17, 64, 300} {
		s := randomText(r, n)
		want := Sum(s)
		for i := range n {
			for b := 1; b < 256; b++ {
				if Sum(over(s, i, uint32(b))) == want {
					t.Fatalf("%d bytes, byte %d with %d: the same sum", n, i, b)
				}
			}
			for range 200 {
				other := over(s, i, r.Uint32())
				if other != s && Sum(other) == want {
					t.Fatalf("%d bytes, from %d on: the same sum", n, i)
				}
			}
		}
	}
}

// A change of four bytes goes into the sum by XOR alone: it always tells if the sums of the 32 single bits are independent, and if a byte more keeps different checks different.
func TestFourBytesInARowTellAlways(t *testing.T) {
	zero := Sum("\x00\x00\x00\x00")
	var bits []int
	for i := range 32 {
		bits = append(bits, Sum(over("\x00\x00\x00\x00", 0, 1<<i))^zero)
	}
	if rank(bits) != 32 {
		t.Errorf("four bytes' bits have rank %d", rank(bits))
	}
	bits = nil
	for i := range 32 {
		bits = append(bits, Step(1<<i, 0))
	}
	if rank(bits) != 32 {
		t.Errorf("one step has rank %d", rank(bits))
	}
}

func rank(rows []int) int {
	rows = append([]int(nil), rows...)
	n := 0
	for bit := range 32 {
		at := -1
		for i := n; i < len(rows); i++ {
			if rows[i]>>bit&1 == 1 {
				at = i
				break
			}
		}
		if at < 0 {
			continue
		}
		rows[n], rows[at] = rows[at], rows[n]
		for i := range rows {
			if i != n && rows[i]>>bit&1 == 1 {
				rows[i] ^= rows[n]
			}
		}
		n++
	}
	return n
}

func TestManyBytesAndParts(t *testing.T) {
	s := strings.Repeat("rootstock", 100000)
	if Sum(s) != int(crc32.ChecksumIEEE([]byte(s))) {
		t.Error("a long text")
	}
	parts := make([]string, 100000)
	for i := range parts {
		parts[i] = "rootstock"
	}
	if Sum(parts...) != Sum(s) {
		t.Error("many parts")
	}
}

func FuzzSum(f *testing.F) {
	f.Add("123456789", 4)
	f.Add("", 0)
	f.Fuzz(func(t *testing.T, s string, at int) {
		at = min(max(at, 0), len(s))
		if got := Sum(s[:at], s[at:]); got != plainSum(s) {
			t.Errorf("Sum(%q, %q) = %d", s[:at], s[at:], got)
		}
	})
}

func FuzzStep(f *testing.F) {
	f.Add(-1, byte(0))
	f.Add(math.MinInt, byte(255))
	f.Fuzz(func(t *testing.T, c int, b byte) {
		if got, want := Step(c, b), plainStep(c, b); got != want {
			t.Errorf("Step(%d, %d) = %d, want %d", c, b, got, want)
		}
	})
}
