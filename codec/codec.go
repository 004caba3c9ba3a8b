// Package codec is layer 1: see shared/doc/01-codec.md.
package codec

import (
	"strings"

	"rootstock/api"
)

// Reader reads bytes. A nil one counts as one of the empty text that keeps no error, so that no call on it panics.
type Reader struct {
	rest string
	err  api.Errno
}

// Put is a number as bytes, the greatest first, so that numbers of one size are ordered as their bytes.
func Put(size int, n int) (string, api.Errno) {
	if !isSize(size) || n < 0 || n>>(8*size) != 0 {
		return "", api.ErrArg
	}
	b := make([]byte, size)
	for i := range b {
		b[size-1-i] = byte(n >> (8 * i))
	}
	return string(b), api.OK
}

// Text is a text as bytes, behind the number of them: so it may be as long as one byte can tell.
func Text(s string) (string, api.Errno) {
	head, err := Put(1, len(s))
	if err != api.OK {
		return "", err
	}
	return Join(head, s), api.OK
}

// Join is all, one behind the other.
func Join(parts ...string) string {
	return strings.Join(parts, "")
}

// Read is a reader at the beginning.
func Read(s string) *Reader {
	return &Reader{rest: s}
}

// Int reads a number.
func (r *Reader) Int(size int) int {
	if !isSize(size) {
		r.fail(api.ErrArg)
		return 0
	}
	s := r.Bytes(size)
	n := 0
	for i := range len(s) {
		n = n<<8 | int(s[i])
	}
	return n
}

// Bytes reads some bytes.
func (r *Reader) Bytes(n int) string {
	if r == nil || r.err != api.OK {
		return ""
	}
	switch {
	case n < 0:
		r.fail(api.ErrArg)
		return ""
	case n > len(r.rest):
		r.fail(api.ErrCodecShort)
		return ""
	}
	s := r.rest[:n]
	r.rest = r.rest[n:]
	return s
}

// Text reads a text. Where it is cut, the byte that tells its length stays read.
func (r *Reader) Text() string {
	return r.Bytes(r.Int(1))
}

// Left is how many bytes are left, behind an error too.
func (r *Reader) Left() int {
	if r == nil {
		return 0
	}
	return len(r.rest)
}

// Err is the first error.
func (r *Reader) Err() api.Errno {
	if r == nil {
		return api.OK
	}
	return r.err
}

// End is what is wrong at the end.
func (r *Reader) End() api.Errno {
	switch {
	case r.Err() != api.OK:
		return r.Err()
	case r.Left() > 0:
		return api.ErrCodecRest
	}
	return api.OK
}

// fail keeps an error only if there was none before, since Err tells the first one.
func (r *Reader) fail(e api.Errno) {
	if r != nil && r.err == api.OK {
		r.err = e
	}
}

func isSize(size int) bool {
	return size == 1 || size == 2 || size == 4
}
