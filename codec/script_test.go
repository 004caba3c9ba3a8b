package codec

import (
	"math"
	"testing"

	"rootstock/api"
)

// plain says by one case after the other what the chapter asks of a Reader, so that any row of calls can be held against it.
type plain struct {
	s   string
	at  int
	err api.Errno
}

func (p *plain) take(n int) string {
	if p.err != api.OK {
		return ""
	}
	if n < 0 {
		p.err = api.ErrArg
		return ""
	}
	if len(p.s)-p.at < n {
		p.err = api.ErrCodecShort
		return ""
	}
	p.at += n
	return p.s[p.at-n : p.at]
}

func (p *plain) number(size int) int {
	if p.err == api.OK && size != 1 && size != 2 && size != 4 {
		p.err = api.ErrArg
	}
	switch s := p.take(size); len(s) {
	case 1:
		return int(s[0])
	case 2:
		return int(s[0])*256 + int(s[1])
	case 4:
		return ((int(s[0])*256+int(s[1]))*256+int(s[2]))*256 + int(s[3])
	}
	return 0
}

// numbers are the arguments of a script's calls.
func numbers() []int {
	return []int{0, 1, 2, 3, 4, 5, 8, -1, math.MinInt, math.MaxInt}
}

// step does one call on both, and tells whether they answer the same.
func step(r *Reader, p *plain, b byte) bool {
	l := numbers()
	n := l[int(b/3)%len(l)]
	switch b % 3 {
	case 0:
		return r.Int(n) == p.number(n)
	case 1:
		return r.Bytes(n) == p.take(n)
	}
	return r.Text() == p.take(p.number(1))
}

// alike runs a script, a call a byte, and holds all that is told behind each call against what is asked.
func alike(s, script string) bool {
	r, p := Read(s), &plain{s: s}
	for i := range len(script) {
		if !step(r, p, script[i]) {
			return false
		}
		end := p.err
		if end == api.OK && p.at < len(s) {
			end = api.ErrCodecRest
		}
		if r.Left() != len(s)-p.at || r.Err() != p.err || r.End() != end {
			return false
		}
	}
	return true
}

func TestShortScripts(t *testing.T) {
	texts := []string{"", "\x00", "\x01", "\x02a", "\x01ab", "\x03\x00\x01\xff", "\x00\x01\x02\x03\x04\x05\x06\x07", "\xff\xfe\xfd\xfc\xfb\x01x\x00"}
	calls := 3 * len(numbers())
	for _, s := range texts {
		for i := range calls * calls * calls {
			script := string([]byte{byte(i % calls), byte(i / calls % calls), byte(i / calls / calls)})
			if !alike(s, script) {
				t.Fatalf("%x, script %x", s, script)
			}
		}
	}
}

func FuzzScript(f *testing.F) {
	f.Add("\x00\x07\x03abcX", "\x06\x02\x04\x04\x03")
	f.Add("\x05ab", "\x02\x03")
	f.Add("abc", "\x16\x03")
	f.Fuzz(func(t *testing.T, s, script string) {
		if !alike(s, script) {
			t.Fatalf("%x, script %x", s, script)
		}
	})
}

func FuzzPut(f *testing.F) {
	f.Add(2, 258)
	f.Add(4, 1<<32)
	f.Add(3, 1)
	f.Add(1, -1)
	f.Fuzz(func(t *testing.T, size, n int) {
		s, e := Put(size, n)
		fits := n >= 0 && (size == 1 && n < 256 || size == 2 && n < 65536 || size == 4 && n < 4294967296)
		if !fits {
			if s != "" || e != api.ErrArg {
				t.Fatal(size, n, s, e)
			}
			return
		}
		p := &plain{s: s}
		if e != api.OK || len(s) != size || p.number(size) != n {
			t.Fatalf("Put(%d, %d) = %x, %d", size, n, s, e)
		}
	})
}
