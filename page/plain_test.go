package page

import (
	"hash/crc32"
	"math/rand"
	"testing"

	"rootstock/api"
)

// plainOpen says by one case after the other what a page is, without sealing it again.
func plainOpen(id int, s string) (api.Kind, string, api.Errno) {
	bad := len(s) != 256 || id < 0 || id > greatest
	if !bad {
		bad = s[:4] != put(4, int(crc32.ChecksumIEEE([]byte(s[4:])))) || s[4:8] != put(4, id) || s[9] != 0 || s[12:16] != "\x00\x00\x00\x00"
	}
	if bad {
		return 0, "", api.ErrCorrupt
	}
	n := int(s[10])*256 + int(s[11])
	if n > 240 {
		return 0, "", api.ErrCorrupt
	}
	for i := 16 + n; i < 256; i++ {
		if s[i] != 0 {
			return 0, "", api.ErrCorrupt
		}
	}
	return api.Kind(s[8]), s[16 : 16+n], api.OK
}

// hold holds what Open and Check tell of bytes against the plain words.
func hold(t *testing.T, id int, s string) api.Errno {
	t.Helper()
	k, b, e := Open(id, s)
	if kind, body, err := plainOpen(id, s); k != kind || b != body || e != err {
		t.Errorf("Open(%d, %x) = %d, %x, %d, want %d, %x, %d", id, s, k, b, e, kind, body, err)
	}
	if want := len(s) == 256 && s[:4] == put(4, int(crc32.ChecksumIEEE([]byte(s[4:])))); Check(s) != want {
		t.Errorf("Check(%x) = %v", s, !want)
	}
	if e != api.OK {
		return e
	}
	if again, err := Seal(id, k, b); again != s || err != api.OK {
		t.Errorf("%x, sealed again, is %x, %d", s, again, err)
	}
	return e
}

func TestWhatIsOpenedIsSealedAgain(t *testing.T) {
	r := rand.New(rand.NewSource(5))
	opened := 0
	for range 20000 {
		id := goodNumbers()[r.Intn(len(goodNumbers()))]
		b := []byte(bytesOf(id, api.Kind(r.Intn(256)), randomText(r, r.Intn(241)))[4:])
		for range r.Intn(3) {
			b[r.Intn(len(b))] ^= byte(r.Intn(3))
		}
		if hold(t, id, checked(string(b))) == api.OK {
			opened++
		}
	}
	if opened < 2000 || opened > 18000 {
		t.Error("opened", opened)
	}
}

func FuzzOpen(f *testing.F) {
	f.Add(7, bytesOf(7, api.KindLeaf, "ab"))
	f.Add(-1, "")
	f.Fuzz(func(t *testing.T, id int, s string) {
		hold(t, id, s)
		rest := s + bytesOf(id&greatest, api.KindLeaf, "ab")[4:]
		hold(t, id, checked(rest[:252]))
	})
}

func FuzzSeal(f *testing.F) {
	f.Add(7, byte(api.KindLeaf), "ab")
	f.Fuzz(func(t *testing.T, id int, kind byte, body string) {
		want, err := "", api.OK
		switch {
		case len(body) > 240:
			err = api.ErrPageLong
		case id < 0 || id > greatest:
			err = api.ErrArg
		default:
			want = bytesOf(id, api.Kind(kind), body)
		}
		s, e := Seal(id, api.Kind(kind), body)
		if s != want || e != err {
			t.Fatalf("Seal(%d, %d, %q) = %x, %d", id, kind, body, s, e)
		}
		if e == api.OK {
			opens(t, id, s, api.Kind(kind), body)
		}
	})
}
