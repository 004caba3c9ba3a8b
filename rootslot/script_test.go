package rootslot

import (
	"math/rand"
	"testing"

	"rootstock/api"
	"rootstock/disk"
	"rootstock/pagefile"
)

// plainDecode says by one case after the other what a slot has, without encoding it again.
func plainDecode(s string) (api.Root, bool) {
	if len(s) != 256 || s[20:248] != noughts(228) || s[:4] != s[252:] || s[:4] == noughts(4) {
		return api.Root{}, false
	}
	if closed(s[:20], s[:4]) != s {
		return api.Root{}, false
	}
	return api.Root{Epoch: take(s), Pages: take(s[4:]), Catalog: take(s[8:]), Free: take(s[12:]), Next: take(s[16:])}, true
}

// hold holds what Decode tells of bytes against the plain words, and tells whether they have a root.
func hold(t *testing.T, s string) bool {
	t.Helper()
	r, ok := Decode(s)
	if want, there := plainDecode(s); r != want || ok != there {
		t.Errorf("Decode(%x) = %v, %v, want %v, %v", s, r, ok, want, there)
	}
	if ok {
		if again, e := Encode(r); again != s || e != api.OK {
			t.Errorf("%x, encoded again, is %x, %d", s, again, e)
		}
	}
	return ok
}

func TestWhatIsDecodedIsEncodedAgain(t *testing.T) {
	r := rand.New(rand.NewSource(8))
	there := 0
	for range 20000 {
		begin := make([]byte, 20+r.Intn(2)*r.Intn(2)*r.Intn(229))
		r.Read(begin[:r.Intn(21)])
		for range r.Intn(2) {
			begin[r.Intn(len(begin))] ^= byte(r.Intn(3))
		}
		end := []byte(string(begin[:4]))
		end[r.Intn(4)] ^= byte(r.Intn(40) / 39)
		if hold(t, closed(string(begin), string(end))) {
			there++
		}
	}
	if there < 2000 || there > 19800 {
		t.Error("roots:", there)
	}
}

func FuzzDecode(f *testing.F) {
	f.Add(bytesOf(api.Root{Epoch: 3, Pages: 9}))
	f.Add("")
	f.Fuzz(func(t *testing.T, s string) {
		hold(t, s)
		begin := (s + noughts(248))[:248]
		hold(t, closed(begin, begin[:4]))
		hold(t, closed(begin[:20], begin[:4]))
	})
}

func FuzzEncode(f *testing.F) {
	f.Add(3, 9, 0, 0, 0)
	f.Add(greatest, greatest+1, -1, 1, 2)
	f.Fuzz(func(t *testing.T, epoch, pages, catalog, free, next int) {
		r := api.Root{Epoch: epoch, Pages: pages, Catalog: catalog, Free: free, Next: next}
		for _, n := range []int{epoch, pages, catalog, free, next} {
			if n < 0 || n > greatest || epoch == 0 {
				refused(t, r)
				return
			}
		}
		if s := encoded(t, r); s != bytesOf(r) {
			t.Errorf("Encode(%v) = %x", r, s)
		}
		decodes(t, bytesOf(r), r)
	})
}

// source gives numbers from bytes, and 0 when there are none left.
type source struct{ rest []byte }

func (s *source) next() int {
	if len(s.rest) == 0 {
		return 0
	}
	n := int(s.rest[0])
	s.rest = s.rest[1:]
	return n
}

// plain is a file whose roots are stored one after the other, by the chapter's words alone: it knows of no slot.
type plain struct {
	stored api.Root // noughts: none
	trying api.Root // the one that was being stored when the power went, or noughts
}

// store stores the root behind the last one, with the power that is there, or goes.
func store(t *testing.T, s *source, f *pagefile.File, p *plain) {
	r := api.Root{Epoch: p.stored.Epoch + 1, Pages: s.next(), Catalog: s.next() << 24, Free: s.next() << 8, Next: s.next()}
	breaks := s.next()%3 == 0
	if breaks {
		f.Break(0)
	}
	e := Store(f, r)
	switch {
	case breaks && e != api.ErrDown || !breaks && e != api.OK:
		t.Fatalf("Store(%v) = %d", r, e)
	case breaks:
		p.trying = r
	default:
		p.stored = r
	}
}

// crash lets the power come back. Behind it there is the last root, or the one that was being stored: and if it is this one, it stays.
func crash(t *testing.T, s *source, f *pagefile.File, p *plain) {
	var keep []int
	for n := range f.Pending() {
		if s.next()%4 != 0 {
			keep = append(keep, n)
		}
	}
	f.Crash(keep, f.Pending()-s.next()%3, s.next()+s.next()%2)
	r, e := Load(f)
	switch {
	case e == api.OK && r == p.trying:
		p.stored = r
	case e == api.OK && r == p.stored:
	case e == api.ErrNoRoot && p.stored == api.Root{} && r == api.Root{}:
	default:
		t.Fatalf("Load = %v, %d, want %v or %v", r, e, p.stored, p.trying)
	}
	p.trying = api.Root{}
}

func script(t *testing.T, bytes []byte) {
	s := &source{bytes}
	f := pagefile.New(disk.New(4))
	p := &plain{stored: api.Root{Epoch: s.next() * s.next() * s.next() << 7}}
	if p.stored.Epoch > 0 && Store(f, p.stored) != api.OK {
		t.Fatal(p.stored)
	}
	for len(s.rest) > 0 {
		if s.next()%4 == 0 {
			f.Write(2+s.next()%2, api.KindLeaf, "page")
		}
		store(t, s, f, p)
		if f.Down() || s.next()%3 == 0 {
			crash(t, s, f, p)
		}
		r, e := Load(f)
		if want := p.stored; r != want || (e == api.OK) != (want != api.Root{}) {
			t.Fatalf("Load = %v, %d, want %v", r, e, want)
		}
	}
}

func TestScripts(t *testing.T) {
	r := rand.New(rand.NewSource(9))
	for range 1000 {
		b := make([]byte, 600)
		r.Read(b)
		script(t, b)
	}
}

func FuzzScript(f *testing.F) {
	f.Add([]byte{1, 2, 3, 4, 5, 0, 7, 8, 9})
	f.Fuzz(script)
}
