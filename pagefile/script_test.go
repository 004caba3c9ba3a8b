package pagefile

import (
	"math/rand"
	"slices"
	"strings"
	"testing"

	"rootstock/api"
	"rootstock/disk"
)

// cell is what stands in a sector: a page, if it is one, or else a slot's bytes.
type cell struct {
	page bool
	kind api.Kind
	text string
}

// put is a write of a cell that is not sure.
type put struct {
	sector int
	cell   cell
}

// plain is a file by the chapter's words alone, that knows no bytes of pages.
type plain struct {
	sure    []cell
	pending []put
	fuse    int // below 0: no Break stands
	down    bool
}

func newPlain(sectors int) *plain {
	return &plain{sure: slices.Repeat([]cell{{text: noughts()}}, sectors), fuse: -1}
}

func (p *plain) at(i int) cell {
	c := p.sure[i]
	for _, w := range p.pending {
		if w.sector == i {
			c = w.cell
		}
	}
	return c
}

func (p *plain) has(id int) bool {
	return id >= 2 && id < len(p.sure)
}

func (p *plain) read(id int, kind api.Kind) (string, api.Errno) {
	if !p.has(id) {
		return "", api.ErrRange
	}
	if p.down {
		return "", api.ErrDown
	}
	if c := p.at(id); c.page && c.kind == kind {
		return c.text, api.OK
	}
	return "", api.ErrCorrupt
}

func (p *plain) store(i int, c cell) api.Errno {
	p.pending = append(p.pending, put{i, c})
	p.down = p.fuse == 0
	if p.fuse >= 0 {
		p.fuse--
	}
	if p.down {
		return api.ErrDown
	}
	return api.OK
}

func (p *plain) write(id int, kind api.Kind, body string) api.Errno {
	if !p.has(id) {
		return api.ErrRange
	}
	if len(body) > 240 {
		return api.ErrPageLong
	}
	if p.down {
		return api.ErrDown
	}
	return p.store(id, cell{true, kind, body})
}

func (p *plain) slot(i int) (string, api.Errno) {
	if i != 0 && i != 1 {
		return "", api.ErrRange
	}
	if p.down {
		return "", api.ErrDown
	}
	if i >= len(p.sure) {
		return "", api.ErrRange
	}
	return p.at(i).text, api.OK
}

func (p *plain) putSlot(i int, s string) api.Errno {
	if _, err := p.slot(i); err != api.OK {
		return err
	}
	if len(s) != 256 {
		return api.ErrArg
	}
	return p.store(i, cell{text: s})
}

func (p *plain) sync() api.Errno {
	if p.down {
		return api.ErrDown
	}
	for _, w := range p.pending {
		p.sure[w.sector] = w.cell
	}
	p.pending = nil
	return api.OK
}

func (p *plain) crash(keep []int) {
	for n, w := range p.pending {
		if slices.Contains(keep, n) {
			p.sure[w.sector] = w.cell
		}
	}
	p.pending, p.fuse, p.down = nil, -1, false
}

// source gives numbers from bytes, and 0 when there are none left.
type source struct{ rest []byte }

func (s *source) next() int {
	if len(s.rest) == 0 {
		return 0
	}
	n := int(s.rest[0])
	s.rest = s.rest[1:]
	return n
}

// step does one thing to both files, and holds the answers against each other.
func step(t *testing.T, s *source, f *File, p *plain) {
	switch s.next() % 8 {
	case 0, 1, 2:
		id, kind := s.next()%(len(p.sure)+3)-1, api.Kind(s.next()%4)
		body := strings.Repeat(string([]byte{byte(s.next())}), s.next()*250/256)
		if got, want := f.Write(id, kind, body), p.write(id, kind, body); got != want {
			t.Fatalf("Write(%d, %d, %d bytes) = %d, want %d", id, kind, len(body), got, want)
		}
	case 3, 4:
		i, text := s.next()%5-1, full(string([]byte{byte(s.next())}))
		if c := s.next(); c >= 230 {
			text = text[c-229:]
		}
		if got, want := f.PutSlot(i, text), p.putSlot(i, text); got != want {
			t.Fatalf("PutSlot(%d, %d bytes) = %d, want %d", i, len(text), got, want)
		}
	case 5:
		if got, want := f.Sync(), p.sync(); got != want {
			t.Fatalf("Sync = %d, want %d", got, want)
		}
	case 6:
		n := s.next()%12 - 2
		f.Break(n)
		p.fuse = max(n, -1)
	case 7:
		var keep []int
		for range s.next() % 6 {
			keep = append(keep, s.next()%8-1)
		}
		f.Crash(keep, -1, 0)
		p.crash(keep)
	}
}

// same reads all that there is, and what is next to it.
func same(t *testing.T, f *File, p *plain) {
	if f.Room() != max(len(p.sure), 2) || f.Pending() != len(p.pending) || f.Down() != p.down {
		t.Fatalf("Room %d, %d pending, down %v, want %d, %d, %v", f.Room(), f.Pending(), f.Down(), max(len(p.sure), 2), len(p.pending), p.down)
	}
	for i := -1; i < len(p.sure)+3; i++ {
		for kind := range api.Kind(5) {
			body, err := f.Read(i, kind)
			if want, wantErr := p.read(i, kind); body != want || err != wantErr {
				t.Fatalf("Read(%d, %d) = %q, %d, want %q, %d", i, kind, body, err, want, wantErr)
			}
		}
		text, err := f.Slot(i)
		if want, wantErr := p.slot(i); text != want || err != wantErr {
			t.Fatalf("Slot(%d) = %q, %d, want %q, %d", i, text, err, want, wantErr)
		}
	}
}

func script(t *testing.T, bytes []byte) {
	s := &source{bytes}
	sectors := s.next() % 7
	f, p := New(disk.New(sectors)), newPlain(sectors)
	same(t, f, p)
	for len(s.rest) > 0 {
		step(t, s, f, p)
		same(t, f, p)
	}
}

func TestScripts(t *testing.T) {
	chance := rand.New(rand.NewSource(6))
	for range 500 {
		bytes := make([]byte, chance.Intn(200))
		chance.Read(bytes)
		script(t, bytes)
	}
}

func FuzzScript(f *testing.F) {
	f.Add([]byte{4, 0, 2, 1, 'a', 20, 0, 4, 1, 'b', 20, 3, 2, 's', 0, 5, 6, 2, 0, 3, 1, 'c', 9, 7, 1, 1})
	f.Fuzz(func(t *testing.T, bytes []byte) {
		script(t, bytes[:min(len(bytes), 400)])
	})
}
