package chain

import (
	"math/rand"
	"slices"
	"testing"

	"rootstock/api"
	"rootstock/pagefile"
	"rootstock/runs"
)

// taken is the number that stands in the first four bytes.
func taken(s string) int {
	return int(s[0])<<24 | int(s[1])<<16 | int(s[2])<<8 | int(s[3])
}

// plainParse says by one case after the other what a body says, without writing it again.
func plainParse(s string) (int, []api.Run, bool) {
	if len(s) < 6 {
		return 0, nil, false
	}
	count := int(s[4])<<8 | int(s[5])
	if count > 29 || len(s) != 6+8*count {
		return 0, nil, false
	}
	var l []api.Run
	for i := range count {
		r := api.Run{From: taken(s[6+8*i:]), To: taken(s[10+8*i:])}
		if r.From > r.To {
			return 0, nil, false
		}
		l = append(l, r)
	}
	return taken(s), l, true
}

// hold holds what Parse tells of bytes against the plain words, and tells whether they are a body.
func hold(t *testing.T, s string) bool {
	t.Helper()
	next, l, there := plainParse(s)
	if !there {
		parseErr(t, s)
		return false
	}
	parses(t, s, next, l)
	if again, e := Body(next, l); again != s || e != api.OK {
		t.Errorf("%x, written again, is %x, %d", s, again, e)
	}
	return true
}

func TestWhatIsParsedIsWrittenAgain(t *testing.T) {
	r := rand.New(rand.NewSource(3))
	there := 0
	for range 20000 {
		var l []api.Run
		for range r.Intn(32) {
			from := r.Intn(1 << (1 + r.Intn(32)))
			l = append(l, api.Run{From: from, To: min(from+r.Intn(1<<(1+r.Intn(32))), greatest)})
		}
		b := []byte(bodyOf(r.Intn(1<<32), len(l), l))
		for range r.Intn(3) {
			b[r.Intn(len(b))] ^= byte(r.Intn(3))
		}
		if hold(t, string(b[:len(b)-r.Intn(8)/7])) {
			there++
		}
	}
	if there < 4000 || there > 18000 {
		t.Error("bodies:", there)
	}
}

func FuzzParse(f *testing.F) {
	f.Add(bodyOf(7, 1, list(1, 3)))
	f.Add("")
	f.Fuzz(func(t *testing.T, s string) {
		hold(t, s)
		count := max(len(s)-4, 0) / 8
		if len(s) >= 4+8*count {
			hold(t, (s + four(0))[:4]+four(count)[2:]+s[len(s)-8*count:])
		}
	})
}

func FuzzBody(f *testing.F) {
	f.Add(7, 1, 3, 9, 9)
	f.Add(greatest, greatest, greatest, 0, greatest)
	f.Add(-1, 3, 2, greatest+1, 4)
	f.Fuzz(func(t *testing.T, next, a, b, c, d int) {
		for _, n := range []int{next, a, b, c, d} {
			if n < 0 || n > greatest || a > b || c > d {
				bodyErr(t, next, list(a, b, c, d))
				return
			}
		}
		bodyIs(t, next, list(a, b, c, d))
	})
}

// source gives numbers from bytes, and 0 when there are none left.
type source struct{ rest []byte }

func (s *source) next() int {
	if len(s.rest) == 0 {
		return 0
	}
	n := int(s.rest[0])
	s.rest = s.rest[1:]
	return n
}

// text is a page's bytes as far as a chain sees them: of another kind, or spoilt, it is none.
type text struct {
	chain bool
	body  string
}

// plain is a file's pages by the chapter's words alone, without a disk: those that were written, by their numbers.
type plain struct {
	room  int
	pages map[int]text
}

func (p *plain) has(id int) bool {
	return 2 <= id && id < p.room
}

// write is Write with the power on.
func (p *plain) write(l []api.Run, ids []int) (int, api.Errno) {
	set := runs.Norm(l...)
	sorted := slices.Clone(ids)
	slices.Sort(sorted)
	if 29*len(ids) < len(set) || len(slices.Compact(sorted)) < len(ids) {
		return 0, api.ErrArg
	}
	for i, id := range ids {
		next := idOr0(ids, i+1)
		if next < 0 || next > greatest || !p.has(id) {
			return 0, api.ErrRange
		}
		here := set[min(29*i, len(set)):min(29*i+29, len(set))]
		p.pages[id] = text{true, bodyOf(next, len(here), here)}
	}
	return idOr0(ids, 0), api.OK
}

// read is Read with the power on: a chain of more pages than there are has one twice.
func (p *plain) read(head int) ([]api.Run, []int, api.Errno) {
	var all []api.Run
	var ids []int
	for id := head; id != 0; {
		next, l, ok := plainParse(p.pages[id].body)
		if !ok || !p.pages[id].chain || len(ids) > p.room {
			return nil, nil, api.ErrCorrupt
		}
		all, ids = append(all, l...), append(ids, id)
		id = next
	}
	return runs.Norm(all...), ids, api.OK
}

// someRuns are runs of which a few are empty, or reach beyond the numbers of a set.
func someRuns(s *source) []api.Run {
	var l []api.Run
	wide := s.next() % 8
	for range s.next() % 90 {
		from := (s.next()<<8|s.next())<<(2*wide) - s.next()%2*s.next()
		l = append(l, api.Run{From: from, To: from + s.next()>>wide - s.next()>>6})
	}
	return l
}

// someIds are ids that are mostly those of pages, and mostly unlike.
func someIds(s *source, room int) []int {
	var ids []int
	id, step := s.next(), 1+s.next()
	for range s.next() % 8 {
		id += step
		switch s.next() {
		case 0:
			ids = append(ids, s.next()-3)
		case 1:
			ids = append(ids, greatest-2+s.next()%6)
		default:
			ids = append(ids, 2+id%(room-2))
		}
	}
	return ids
}

// lay lays one page of any kind, or of a chain that nobody wrote.
func lay(s *source, f *pagefile.File, p *plain) {
	l := someRuns(s)
	l = runs.Norm(l[:min(len(l), s.next()%4)]...)
	id, kind, body := 2+s.next()%(p.room-2), api.KindChain, bodyOf(s.next()%p.room, len(l)+s.next()/250, l)
	if s.next()%8 == 0 {
		kind = api.Kind(s.next())
	}
	if f.Write(id, kind, body) == api.OK {
		p.pages[id] = text{kind == api.KindChain, body}
	}
}

// step is a write, or a page that is laid, and then a read of every chain that there may be. It tells how many of them were OK, with pages.
func step(t *testing.T, s *source, f *pagefile.File, p *plain) int {
	if s.next()%2 == 0 {
		l, ids := someRuns(s), someIds(s, p.room)
		want, err := p.write(l, ids)
		if n, e := Write(f, l, ids); n != want || e != err {
			t.Fatalf("Write(%v, %v) = %d, %d, want %d, %d", l, ids, n, e, want, err)
		}
	} else {
		lay(s, f, p)
	}
	whole := 0
	for head := -1; head <= p.room; head++ {
		before := f.Reads()
		set, pages, err := p.read(head)
		l, ids, e := Read(f, head)
		if !slices.Equal(l, set) || !slices.Equal(ids, pages) || e != err {
			t.Fatalf("Read(%d) = %v, %v, %d, want %v, %v, %d", head, l, ids, e, set, pages, err)
		}
		if f.Reads()-before > f.Sectors() {
			t.Fatalf("Read(%d) reads %d pages", head, f.Reads()-before)
		}
		if len(ids) > 0 {
			whole++
		}
	}
	return whole
}

func script(t *testing.T, bytes []byte) int {
	s := &source{bytes}
	room := 3 + s.next()%12
	f := file(room)
	p := &plain{room: room, pages: map[int]text{}}
	whole := 0
	for len(s.rest) > 0 {
		whole += step(t, s, f, p)
	}
	return whole
}

func TestScripts(t *testing.T) {
	r := rand.New(rand.NewSource(4))
	whole := 0
	for range 1000 {
		b := make([]byte, 3000)
		r.Read(b)
		whole += script(t, b)
	}
	if whole < 10000 {
		t.Error("chains:", whole)
	}
}

func FuzzScript(f *testing.F) {
	f.Add([]byte{1, 2, 3, 4, 5, 0, 7, 8, 9})
	f.Fuzz(func(t *testing.T, bytes []byte) { script(t, bytes) })
}
