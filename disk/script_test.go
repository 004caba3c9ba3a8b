package disk

import (
	"math/rand"
	"slices"
	"testing"

	"rootstock/api"
)

// plain is a disk by the chapter's words alone: it keeps what is sure and what is pending, and works all else out anew each time.
type plain struct {
	sure          []string
	sectors       []int
	texts         []string
	fuse          int // below 0: no Break stands
	down          bool
	reads, writes int
}

func newPlain(sectors int) *plain {
	return &plain{sure: slices.Repeat([]string{noughts}, sectors), fuse: -1}
}

func (p *plain) readsAs(i int) string {
	s := p.sure[i]
	for n, at := range p.sectors {
		if at == i {
			s = p.texts[n]
		}
	}
	return s
}

func (p *plain) read(i int) (string, api.Errno) {
	if p.down {
		return "", api.ErrDown
	}
	if i < 0 || i >= len(p.sure) {
		return "", api.ErrRange
	}
	p.reads++
	return p.readsAs(i), api.OK
}

func (p *plain) write(i int, s string) api.Errno {
	if p.down {
		return api.ErrDown
	}
	if i < 0 || i >= len(p.sure) {
		return api.ErrRange
	}
	if len(s) != 256 {
		return api.ErrArg
	}
	p.writes++
	p.sectors, p.texts = append(p.sectors, i), append(p.texts, s)
	p.down = p.fuse == 0
	if p.fuse >= 0 {
		p.fuse--
	}
	if p.down {
		return api.ErrDown
	}
	return api.OK
}

func (p *plain) sync() api.Errno {
	if p.down {
		return api.ErrDown
	}
	for i := range p.sure {
		p.sure[i] = p.readsAs(i)
	}
	p.sectors, p.texts = nil, nil
	return api.OK
}

func (p *plain) crash(keep []int, torn, cut int) {
	for n, i := range p.sectors {
		if !slices.Contains(keep, n) {
			continue
		}
		bytes := []byte(p.sure[i])
		for k := range bytes {
			if n != torn || k < cut {
				bytes[k] = p.texts[n][k]
			}
		}
		p.sure[i] = string(bytes)
	}
	p.sectors, p.texts = nil, nil
	p.fuse, p.down = -1, false
}

// source gives numbers from bytes, and 0 when there are none left.
type source struct{ rest []byte }

func (s *source) next() int {
	if len(s.rest) == 0 {
		return 0
	}
	n := int(s.rest[0])
	s.rest = s.rest[1:]
	return n
}

// step does one thing to both disks, and holds the answers against each other.
func step(t *testing.T, s *source, d *Disk, p *plain) {
	switch s.next() % 8 {
	case 0, 1, 2, 3:
		i := s.next()%(len(p.sure)+2) - 1
		text := full(string([]byte{byte(s.next())}))
		if c := s.next(); c >= 250 {
			text = text[c-249:]
		}
		if got, want := d.Write(i, text), p.write(i, text); got != want {
			t.Fatalf("Write(%d) = %d, want %d", i, got, want)
		}
	case 4:
		i := s.next()%(len(p.sure)+2) - 1
		text, err := d.Read(i)
		if want, wantErr := p.read(i); text != want || err != wantErr {
			t.Fatalf("Read(%d) = %q, %d, want %q, %d", i, text, err, want, wantErr)
		}
	case 5:
		if got, want := d.Sync(), p.sync(); got != want {
			t.Fatalf("Sync = %d, want %d", got, want)
		}
	case 6:
		n := s.next()%12 - 2
		d.Break(n)
		p.fuse = max(n, -1)
	case 7:
		var keep []int
		for range s.next() % 6 {
			keep = append(keep, s.next()%8-1)
		}
		torn, cut := s.next()%8-1, s.next()*2-100
		d.Crash(keep, torn, cut)
		p.crash(keep, torn, cut)
	}
}

func same(t *testing.T, d *Disk, p *plain) {
	if d.Sectors() != len(p.sure) || d.Pending() != len(p.texts) || d.Down() != p.down || d.Reads() != p.reads || d.Writes() != p.writes {
		t.Fatalf("%d sectors, %d pending, down %v, %d reads, %d writes, want %d, %d, %v, %d, %d", d.Sectors(), d.Pending(), d.Down(), d.Reads(), d.Writes(), len(p.sure), len(p.texts), p.down, p.reads, p.writes)
	}
	for i, s := range p.sure {
		if d.Sure(i) != s {
			t.Fatalf("Sure(%d) = %q, want %q", i, d.Sure(i), s)
		}
		if p.down {
			continue
		}
		text, err := d.Read(i)
		if want, _ := p.read(i); text != want || err != api.OK {
			t.Fatalf("Read(%d) = %q, %d, want %q", i, text, err, want)
		}
	}
}

func script(t *testing.T, bytes []byte) {
	s := &source{bytes}
	sectors := s.next() % 5
	d, p := New(sectors), newPlain(sectors)
	for len(s.rest) > 0 {
		step(t, s, d, p)
		same(t, d, p)
	}
}

func TestScripts(t *testing.T) {
	chance := rand.New(rand.NewSource(4))
	for range 2000 {
		bytes := make([]byte, chance.Intn(200))
		chance.Read(bytes)
		script(t, bytes)
	}
}

func FuzzScript(f *testing.F) {
	f.Add([]byte{3, 0, 1, 'a', 0, 0, 1, 'b', 0, 0, 2, 'c', 0, 7, 2, 1, 3, 3, 52})
	f.Fuzz(func(t *testing.T, bytes []byte) {
		script(t, bytes[:min(len(bytes), 1000)])
	})
}
