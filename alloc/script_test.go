package alloc

import (
	"math/rand"
	"slices"
	"strings"
	"testing"

	"rootstock/api"
	"rootstock/pagefile"
	"rootstock/runs"
)

// source gives numbers from bytes, and 0 when there are none left.
type source struct{ rest []byte }

func (s *source) next() int {
	if len(s.rest) == 0 {
		return 0
	}
	n := int(s.rest[0])
	s.rest = s.rest[1:]
	return n
}

// state is what a page is to a change.
type state int

const (
	beyond state = iota
	inUse
	free
	fresh
)

// leaf is what a page holds, if anything.
type leaf struct {
	there bool
	kind  api.Kind
	body  string
}

// plain is a change by the chapter's words alone: each page by its number, without sets and without a disk.
type plain struct {
	states []state
	held   []leaf
	disk   []leaf
}

func newPlain(sectors int, l []api.Run, pages int) *plain {
	p := &plain{states: make([]state, sectors), held: make([]leaf, sectors), disk: make([]leaf, sectors)}
	for id := 2; id < sectors; id++ {
		p.disk[id] = leaf{true, api.KindLeaf, was(id)}
		if id < pages {
			p.states[id] = inUse
			if slices.ContainsFunc(l, func(r api.Run) bool { return r.From <= id && id <= r.To }) {
				p.states[id] = free
			}
		}
	}
	return p
}

func (p *plain) at(id int) state {
	if id < 0 || id >= len(p.states) {
		return beyond
	}
	return p.states[id]
}

func (p *plain) all(s state) []int {
	var l []int
	for id := 2; id < len(p.states); id++ {
		if p.states[id] == s {
			l = append(l, id)
		}
	}
	return l
}

func (p *plain) alloc() (int, api.Errno) {
	may := append(p.all(free), p.all(beyond)...)
	if len(may) == 0 {
		return 0, api.ErrFull
	}
	p.states[may[0]] = fresh
	return may[0], api.OK
}

func (p *plain) drop(id int) {
	if p.at(id) == fresh {
		p.states[id], p.held[id] = free, leaf{}
	}
}

func (p *plain) put(id int, kind api.Kind, body string) api.Errno {
	switch {
	case p.at(id) != fresh:
		return api.ErrArg
	case len(body) > 240:
		return api.ErrPageLong
	}
	p.held[id] = leaf{true, kind, body}
	return api.OK
}

func (p *plain) get(id int, kind api.Kind) (string, api.Errno) {
	var l leaf
	switch p.at(id) {
	case fresh:
		l = p.held[id]
	case inUse:
		l = p.disk[id]
	}
	if !l.there || l.kind != kind {
		return "", api.ErrCorrupt
	}
	return l.body, api.OK
}

// flush writes so many pages, at most, and tells how many there are to write.
func (p *plain) flush(most int) int {
	n := 0
	for _, id := range p.all(fresh) {
		if p.held[id].there {
			if n < most {
				p.disk[id] = p.held[id]
			}
			n++
		}
	}
	return n
}

// holds holds all that a change tells of itself against the plain one.
func holds(t *testing.T, x *Txn, p *plain) {
	t.Helper()
	var set []api.Run
	for _, id := range p.all(free) {
		set = append(set, api.Run{From: id, To: id})
	}
	used, taken := p.all(inUse), p.all(fresh)
	is(t, x, runs.Norm(set...), 2+len(used)+len(set)+len(taken), taken...)
	for id := -1; id <= len(p.states); id++ {
		for kind := range api.Kind(4) {
			want, err := p.get(id, kind)
			if s, e := x.Get(id, kind); s != want || e != err {
				t.Fatalf("Get(%d, %d) = %q, %d, want %q, %d", id, kind, s, e, want, err)
			}
		}
	}
}

// onDisk holds the file's pages against the plain ones.
func onDisk(t *testing.T, f *pagefile.File, p *plain) {
	t.Helper()
	for id := 2; id < len(p.disk); id++ {
		reads(t, f, id, p.disk[id].kind, p.disk[id].body)
	}
}

// flushed flushes with a Break ahead, or none; behind it the power is on again, and what was written is kept.
func flushed(t *testing.T, s *source, f *pagefile.File, x *Txn, p *plain) {
	fuse := s.next() % 16
	before := f.Writes()
	f.Break(fuse)
	// The write with which the power goes may be kept by the crash: here it is.
	n := p.flush(fuse + 1)
	if n > fuse {
		flushTells(t, x, api.ErrDown)
	} else {
		flushTells(t, x, api.OK)
		if f.Pending() != 0 || f.Writes()-before != n {
			t.Fatalf("pending %d, written %d, want 0, %d", f.Pending(), f.Writes()-before, n)
		}
	}
	f.Crash([]int{0, 1, 2, 3, 4, 5, 6, 7, 8, 9, 10, 11, 12, 13, 14, 15, 16}, 17, 256)
}

func step(t *testing.T, s *source, f *pagefile.File, x *Txn, p *plain) {
	id := s.next()%(len(p.states)+4) - 2
	switch op := s.next() % 16; {
	case op < 6:
		want, err := p.alloc()
		if n, e := x.Alloc(); n != want || e != err {
			t.Fatalf("Alloc = %d, %d, want %d, %d", n, e, want, err)
		}
	case op < 9:
		x.Drop(id)
		p.drop(id)
	case op < 14:
		kind, body := api.Kind(s.next()%4), strings.Repeat("x", s.next()%243)
		putTells(t, x, id, kind, body, p.put(id, kind, body))
	default:
		flushed(t, s, f, x, p)
	}
}

func someRuns(s *source, room int) []api.Run {
	var l []api.Run
	for range s.next() % 6 {
		from := s.next()%(room+4) - 2
		l = append(l, api.Run{From: from, To: from + s.next()%5 - 1})
	}
	return l
}

// script tells how many changes it saw in which no page was left.
func script(t *testing.T, bytes []byte) int {
	s := &source{bytes}
	fulls := 0
	for len(s.rest) > 0 {
		sectors := 2 + s.next()%14
		f, l, pages := filled(sectors), someRuns(s, sectors), s.next()%(sectors+4)-1
		x, p := New(f, l, pages), newPlain(sectors, l, pages)
		holds(t, x, p)
		for range 10 + s.next()%40 {
			step(t, s, f, x, p)
			holds(t, x, p)
		}
		onDisk(t, f, p)
		if len(p.all(free))+len(p.all(beyond)) == 0 {
			fulls++
		}
	}
	return fulls
}

// What is told and what is written is as the plain words say; among it, that no page is handed out twice, nor one in use at New, and that none of these is written.
func TestScripts(t *testing.T) {
	r := rand.New(rand.NewSource(5))
	fulls := 0
	for range 150 {
		b := make([]byte, 1500)
		r.Read(b)
		fulls += script(t, b)
	}
	if fulls < 150 {
		t.Error("full ones:", fulls)
	}
}

func FuzzScript(f *testing.F) {
	f.Add([]byte{6, 1, 5, 1, 5, 9, 0, 0, 1, 1, 2, 10, 3, 15})
	f.Fuzz(func(t *testing.T, bytes []byte) { script(t, bytes) })
}
