package alloc

import (
	"math"
	"slices"
	"strconv"
	"strings"
	"testing"

	"rootstock/api"
	"rootstock/disk"
	"rootstock/pagefile"
)

const (
	greatest = 4294967295
	low      = math.MinInt
	high     = math.MaxInt
)

// The calls keep the signatures that the chapter lists.
var (
	_ func(*pagefile.File, []api.Run, int) *Txn     = New
	_ func(*Txn) (int, api.Errno)                   = (*Txn).Alloc
	_ func(*Txn, int)                               = (*Txn).Drop
	_ func(*Txn, int) bool                          = (*Txn).Fresh
	_ func(*Txn, int, api.Kind, string) api.Errno   = (*Txn).Put
	_ func(*Txn, int, api.Kind) (string, api.Errno) = (*Txn).Get
	_ func(*Txn) api.Errno                          = (*Txn).Flush
	_ func(*Txn) []api.Run                          = (*Txn).Free
	_ func(*Txn) int                                = (*Txn).Pages
	_ func(*Txn) []int                              = (*Txn).Taken
)

// list is runs by their ends: From, To, From, To ..
func list(n ...int) []api.Run {
	var l []api.Run
	for i := 0; i+1 < len(n); i += 2 {
		l = append(l, api.Run{From: n[i], To: n[i+1]})
	}
	return l
}

func file(sectors int) *pagefile.File {
	return pagefile.New(disk.New(sectors))
}

// numbers are ids that no page of a small file has, or that are its slots.
func numbers() []int {
	return []int{low, low + 1, -greatest, -2, -1, 0, 1, 20, 16383, 16384, greatest - 1, greatest, greatest + 1, 1<<32 + 3, 1 << 62, high - 1, high}
}

// filled is a file whose pages are all written: page 5 holds "5 was".
func filled(sectors int) *pagefile.File {
	f := file(sectors)
	for id := 2; id < sectors; id++ {
		f.Write(id, api.KindLeaf, was(id))
	}
	f.Sync()
	return f
}

func was(id int) string {
	return strings.Repeat("#", id%200) + " was"
}

// down is a file whose power is gone, with all its pages written.
func down(sectors int) *pagefile.File {
	f := filled(sectors)
	f.Break(0)
	f.PutSlot(0, strings.Repeat("\x00", 256))
	return f
}

// nothings are changes of which no page may be taken.
func nothings() map[string]*Txn {
	m := map[string]*Txn{"nil": nil, "zero": {}}
	for name, f := range map[string]*pagefile.File{
		"New of nil": nil, "of New(nil)": pagefile.New(nil), "of a zero file": {}, "of a disk of none": file(0), "of a zero disk": pagefile.New(&disk.Disk{}), "of one sector": file(1), "of slots alone": file(2),
	} {
		for _, pages := range []int{low, -1, 0, 1, 2, 3, 99, high} {
			m[name+", pages "+strconv.Itoa(pages)] = New(f, list(low, high), pages)
		}
	}
	return m
}

func is(t testing.TB, x *Txn, free []api.Run, pages int, taken ...int) {
	t.Helper()
	if l := x.Free(); !slices.Equal(l, free) {
		t.Errorf("Free = %v, want %v", l, free)
	}
	if n := x.Pages(); n != pages {
		t.Errorf("Pages = %d, want %d", n, pages)
	}
	if l := x.Taken(); !slices.Equal(l, taken) {
		t.Errorf("Taken = %v, want %v", l, taken)
	}
	for id := -3; id < pages+3; id++ {
		if got := x.Fresh(id); got != slices.Contains(taken, id) {
			t.Errorf("Fresh(%d) = %v", id, got)
		}
	}
}

func allocs(t testing.TB, x *Txn, want ...int) {
	t.Helper()
	for _, id := range want {
		if n, e := x.Alloc(); n != id || e != api.OK {
			t.Errorf("Alloc = %d, %d, want %d", n, e, id)
		}
	}
}

func full(t testing.TB, x *Txn) {
	t.Helper()
	for range 3 {
		if n, e := x.Alloc(); n != 0 || e != api.ErrFull {
			t.Errorf("Alloc = %d, %d, want ErrFull", n, e)
		}
	}
}

func puts(t testing.TB, x *Txn, id int, kind api.Kind, body string) {
	t.Helper()
	putTells(t, x, id, kind, body, api.OK)
	gets(t, x, id, kind, body)
}

func putTells(t testing.TB, x *Txn, id int, kind api.Kind, body string, want api.Errno) {
	t.Helper()
	if e := x.Put(id, kind, body); e != want {
		t.Errorf("Put(%d, %d, %.9q) = %d, want %d", id, kind, body, e, want)
	}
}

func gets(t testing.TB, x *Txn, id int, kind api.Kind, body string) {
	t.Helper()
	if s, e := x.Get(id, kind); s != body || e != api.OK {
		t.Errorf("Get(%d, %d) = %q, %d, want %q", id, kind, s, e, body)
	}
}

func getErr(t testing.TB, x *Txn, id int, kind api.Kind, want api.Errno) {
	t.Helper()
	if s, e := x.Get(id, kind); s != "" || e != want {
		t.Errorf("Get(%d, %d) = %q, %d, want %d", id, kind, s, e, want)
	}
}

func flushTells(t testing.TB, x *Txn, want api.Errno) {
	t.Helper()
	if e := x.Flush(); e != want {
		t.Errorf("Flush = %d, want %d", e, want)
	}
}

func reads(t testing.TB, f *pagefile.File, id int, kind api.Kind, body string) {
	t.Helper()
	if s, e := f.Read(id, kind); s != body || e != api.OK {
		t.Errorf("Read(%d, %d) = %q, %d, want %q", id, kind, s, e, body)
	}
}

func TestExample(t *testing.T) {
	x := New(file(6), list(3, 3), 5)
	allocs(t, x, 3, 5)
	full(t, x)
	is(t, x, nil, 6, 3, 5)
	x.Drop(3)
	is(t, x, list(3, 3), 6, 5)
	allocs(t, x, 3)
	full(t, x)
}

// A pages below 2 counts as 2, and one above the Room as that.
func TestPagesOfNew(t *testing.T) {
	for _, c := range []struct{ sectors, pages, want int }{
		{6, low, 2}, {6, -1, 2}, {6, 0, 2}, {6, 1, 2}, {6, 2, 2}, {6, 3, 3}, {6, 5, 5}, {6, 6, 6}, {6, 7, 6}, {6, greatest + 7, 6}, {6, high, 6},
		{0, 0, 2}, {0, 9, 2}, {1, 9, 2}, {2, 1, 2}, {2, 2, 2}, {2, 3, 2}, {3, 9, 3}, {16384, 16383, 16383}, {16384, 16385, 16384}, {high, high, 16384},
	} {
		is(t, New(file(c.sectors), nil, c.pages), nil, c.want)
	}
}

// Of what is handed in as free, only what is from 2 to pages less 1 counts, as a set.
func TestFreeOfNew(t *testing.T) {
	for _, c := range []struct {
		free  []api.Run
		pages int
		want  []api.Run
	}{
		{nil, 8, nil},
		{list(), 8, nil},
		{list(3, 3), 5, list(3, 3)},
		{list(2, 7), 8, list(2, 7)},
		{list(2, 8), 8, list(2, 7)},
		{list(7, 7), 8, list(7, 7)},
		{list(8, 8), 8, nil},
		{list(8, 9), 20, list(8, 9)},
		{list(10, 10), 99, nil},
		{list(9, 12), 99, list(9, 9)},
		{list(0, 2), 8, list(2, 2)},
		{list(1, 1), 8, nil},
		{list(2, 2), 2, nil},
		{list(2, 2), low, nil},
		{list(2, 2), 3, list(2, 2)},
		{list(low, high), 8, list(2, 7)},
		{list(low, high), 0, nil},
		{list(high, low), 8, nil},
		{list(5, 4), 8, nil},
		{list(6, 6, 2, 3, 4, 4), 8, list(2, 4, 6, 6)},
		{list(5, 7, 2, 5, 3, 3, 7, 2, -4, 0, 9, 9), 8, list(2, 7)},
		{list(greatest, greatest+1, 4, 4, low, -1), 8, list(4, 4)},
	} {
		is(t, New(filled(10), c.free, c.pages), c.want, max(2, min(c.pages, 10)))
	}
}

// The least one that is free comes first, whatever was dropped in which order, and what lies behind all others comes when nothing is free.
func TestWhichPageIsTaken(t *testing.T) {
	x := New(filled(12), list(7, 8, 3, 3), 9)
	is(t, x, list(3, 3, 7, 8), 9)
	allocs(t, x, 3, 7)
	is(t, x, list(8, 8), 9, 3, 7)
	x.Drop(3)
	is(t, x, list(3, 3, 8, 8), 9, 7)
	allocs(t, x, 3, 8, 9)
	is(t, x, nil, 10, 3, 7, 8, 9)
	x.Drop(9)
	x.Drop(7)
	is(t, x, list(7, 7, 9, 9), 10, 3, 8)
	x.Drop(8)
	is(t, x, list(7, 9), 10, 3)
	allocs(t, x, 7, 8, 9, 10, 11)
	full(t, x)
	is(t, x, nil, 12, 3, 7, 8, 9, 10, 11)
	x.Drop(11)
	is(t, x, list(11, 11), 12, 3, 7, 8, 9, 10)
	allocs(t, x, 11)
	full(t, x)
}

func TestAllPagesAreTaken(t *testing.T) {
	for _, c := range []struct{ sectors, pages int }{{3, 0}, {3, 2}, {3, 3}, {9, 0}, {9, 5}, {9, 9}, {300, 2}, {300, 299}, {16384, 2}, {16384, 16384}} {
		x := New(file(c.sectors), list(low, high), c.pages)
		for want := 2; want < c.sectors; want++ {
			allocs(t, x, want)
			if n := x.Pages(); n != max(c.pages, want+1) {
				t.Fatal(c, want, n)
			}
		}
		full(t, x)
		if l := x.Taken(); len(l) != c.sectors-2 || l[0] != 2 || l[len(l)-1] != c.sectors-1 || !slices.IsSorted(l) {
			t.Error(c, len(l))
		}
	}
}

// A full file is told without any change, and goes on where a page is dropped.
func TestFull(t *testing.T) {
	x := New(filled(5), nil, 5)
	full(t, x)
	is(t, x, nil, 5)
	x = New(filled(5), nil, 4)
	allocs(t, x, 4)
	full(t, x)
	is(t, x, nil, 5, 4)
	gets(t, x, 2, api.KindLeaf, was(2))
}

func TestDropForgets(t *testing.T) {
	f := filled(8)
	x := New(f, list(4, 5), 8)
	allocs(t, x, 4, 5)
	puts(t, x, 4, api.KindLeaf, "four")
	puts(t, x, 5, api.KindLeaf, "five")
	x.Drop(4)
	is(t, x, list(4, 4), 8, 5)
	getErr(t, x, 4, api.KindLeaf, api.ErrCorrupt)
	putTells(t, x, 4, api.KindLeaf, "four", api.ErrArg)
	gets(t, x, 5, api.KindLeaf, "five")
	allocs(t, x, 4)
	getErr(t, x, 4, api.KindLeaf, api.ErrCorrupt)
	writes := f.Writes()
	flushTells(t, x, api.OK)
	if n := f.Writes() - writes; n != 1 {
		t.Error("writes:", n)
	}
	reads(t, f, 4, api.KindLeaf, was(4))
	reads(t, f, 5, api.KindLeaf, "five")
}

// Of a page that is not fresh nothing happens: one in use, a free one, a slot, none at all.
func TestDropOfOthers(t *testing.T) {
	f := filled(9)
	x := New(f, list(4, 6), 8)
	allocs(t, x, 4)
	puts(t, x, 4, api.KindLeaf, "four")
	for _, id := range append(numbers(), 2, 3, 5, 6, 7, 8, 9) {
		x.Drop(id)
		is(t, x, list(5, 6), 8, 4)
	}
	gets(t, x, 4, api.KindLeaf, "four")
	gets(t, x, 3, api.KindLeaf, was(3))
	x.Drop(4)
	x.Drop(4)
	is(t, x, list(4, 6), 8)
	allocs(t, x, 4, 5, 6, 8)
	full(t, x)
}

func TestPut(t *testing.T) {
	x := New(filled(9), list(4, 6), 8)
	for _, id := range append(numbers(), 2, 3, 4, 5, 6, 7, 8, 9) {
		putTells(t, x, id, api.KindLeaf, "no", api.ErrArg)
		putTells(t, x, id, api.KindLeaf, strings.Repeat("x", 241), api.ErrArg)
		if x.Fresh(id) {
			t.Error("fresh:", id)
		}
	}
	allocs(t, x, 4)
	for _, n := range []int{241, 242, 256, 65536 + 5, 1 << 20} {
		putTells(t, x, 4, api.KindLeaf, strings.Repeat("x", n), api.ErrPageLong)
		getErr(t, x, 4, api.KindLeaf, api.ErrCorrupt)
	}
	for n := range 241 {
		puts(t, x, 4, api.KindInner, strings.Repeat("\xff", n))
	}
	putTells(t, x, 4, api.KindLeaf, strings.Repeat("x", 241), api.ErrPageLong)
	gets(t, x, 4, api.KindInner, strings.Repeat("\xff", 240))
	puts(t, x, 4, api.KindInner, "")
	is(t, x, list(5, 6), 8, 4)
}

// A page that is fresh is of the kind that was put last, and of no other: not even of KindNone, ahead of the first.
func TestKindsOfFreshPages(t *testing.T) {
	f := file(4)
	x := New(f, nil, 3)
	allocs(t, x, 3)
	for kind := range 256 {
		getErr(t, x, 3, api.Kind(kind), api.ErrCorrupt)
	}
	for last := range 256 {
		puts(t, x, 3, api.Kind(last), "")
		for kind := range 256 {
			if kind != last {
				getErr(t, x, 3, api.Kind(kind), api.ErrCorrupt)
			}
		}
		flushTells(t, x, api.OK)
		reads(t, f, 3, api.Kind(last), "")
	}
}

// Get of another page is what the file's Read tells, but that a number without a page, or with a free one, is what is wrong with it.
func TestGetOfOthers(t *testing.T) {
	f := filled(9)
	f.Write(3, api.KindInner, "inner")
	f.Disk.Write(5, strings.Repeat("\x01", 256))
	x := New(f, list(4, 4), 8)
	gets(t, x, 2, api.KindLeaf, was(2))
	getErr(t, x, 2, api.KindInner, api.ErrCorrupt)
	getErr(t, x, 2, api.KindNone, api.ErrCorrupt)
	gets(t, x, 3, api.KindInner, "inner")
	getErr(t, x, 3, api.KindLeaf, api.ErrCorrupt)
	getErr(t, x, 4, api.KindLeaf, api.ErrCorrupt)
	getErr(t, x, 5, api.KindLeaf, api.ErrCorrupt)
	gets(t, x, 7, api.KindLeaf, was(7))
	getErr(t, x, 8, api.KindLeaf, api.ErrCorrupt)
	getErr(t, x, 9, api.KindLeaf, api.ErrCorrupt)
	for _, id := range numbers() {
		getErr(t, x, id, api.KindLeaf, api.ErrCorrupt)
	}
	allocs(t, x, 4, 8)
	getErr(t, x, 4, api.KindLeaf, api.ErrCorrupt)
	getErr(t, x, 8, api.KindLeaf, api.ErrCorrupt)
	f.Write(2, api.KindLeaf, "written since")
	gets(t, x, 2, api.KindLeaf, "written since")
	if n := x.Pages(); n != 9 {
		t.Error(n)
	}
}

// A page that is fresh, free, or none of the file's is told without a read.
func TestGetReadsNoMoreThanItNeeds(t *testing.T) {
	f := filled(9)
	x := New(f, list(4, 5), 8)
	allocs(t, x, 4)
	puts(t, x, 4, api.KindLeaf, "four")
	before := f.Reads()
	for _, id := range append(numbers(), 4, 5, 8, 9) {
		x.Get(id, api.KindLeaf)
		x.Get(id, api.KindInner)
	}
	if n := f.Reads() - before; n != 0 {
		t.Error("reads:", n)
	}
	x.Get(3, api.KindLeaf)
	if n := f.Reads() - before; n != 1 {
		t.Error("reads:", n)
	}
}

// Nothing is written till Flush, and then by rising numbers, pages without content left out; and it is synced.
func TestFlush(t *testing.T) {
	for fuse := range 4 {
		f := filled(12)
		x := New(f, list(3, 4, 7, 7), 9)
		allocs(t, x, 3, 4, 7, 9, 10)
		writes, pending := f.Writes(), f.Pending()
		for _, id := range []int{9, 3, 10, 7} {
			puts(t, x, id, api.KindInner, "new")
		}
		x.Put(3, api.KindLeaf, "newer")
		x.Drop(10)
		if f.Writes() != writes || f.Pending() != pending {
			t.Error("written ahead of Flush:", f.Writes()-writes)
		}
		f.Break(fuse)
		if fuse == 3 {
			flushTells(t, x, api.OK)
		} else {
			flushTells(t, x, api.ErrDown)
		}
		is(t, x, list(10, 10), 11, 3, 4, 7, 9)
		f.Crash([]int{0, 1, 2, 3}, 4, 256)
		for i, id := range []int{3, 7, 9} {
			kind, body := api.KindInner, "new"
			switch {
			case i > fuse:
				kind, body = api.KindLeaf, was(id)
			case id == 3:
				kind, body = api.KindLeaf, "newer"
			}
			reads(t, f, id, kind, body)
		}
		for _, id := range []int{2, 4, 5, 6, 8, 10, 11} {
			reads(t, f, id, api.KindLeaf, was(id))
		}
	}
}

// What is flushed is sure: a crash that keeps nothing leaves it.
func TestFlushSyncs(t *testing.T) {
	f := filled(6)
	f.Write(2, api.KindLeaf, "pending")
	x := New(f, list(4, 4), 6)
	flushTells(t, x, api.OK)
	if f.Pending() != 0 {
		t.Error("Flush of nothing did not sync")
	}
	allocs(t, x, 4)
	flushTells(t, x, api.OK)
	reads(t, f, 4, api.KindLeaf, was(4))
	puts(t, x, 4, api.KindLeaf, "four")
	flushTells(t, x, api.OK)
	f.Crash(nil, 0, 0)
	reads(t, f, 2, api.KindLeaf, "pending")
	reads(t, f, 4, api.KindLeaf, "four")
}

// What was flushed stays fresh: it may be put, dropped and flushed again, and is written each time.
func TestFlushAgain(t *testing.T) {
	f := filled(6)
	x := New(f, list(3, 4), 6)
	allocs(t, x, 3, 4)
	puts(t, x, 3, api.KindLeaf, "three")
	puts(t, x, 4, api.KindLeaf, "four")
	flushTells(t, x, api.OK)
	is(t, x, nil, 6, 3, 4)
	f.Write(3, api.KindLeaf, "by another one")
	gets(t, x, 3, api.KindLeaf, "three")
	puts(t, x, 4, api.KindInner, "four again")
	reads(t, f, 4, api.KindLeaf, "four")
	writes := f.Writes()
	flushTells(t, x, api.OK)
	if n := f.Writes() - writes; n != 2 {
		t.Error("writes:", n)
	}
	reads(t, f, 3, api.KindLeaf, "three")
	reads(t, f, 4, api.KindInner, "four again")
	x.Drop(4)
	getErr(t, x, 4, api.KindInner, api.ErrCorrupt)
	reads(t, f, 4, api.KindInner, "four again")
}

// With the power gone: what needs no disk is told as before, the rest is ErrDown; a change outlives it.
func TestPowerDown(t *testing.T) {
	f := down(8)
	x := New(f, list(3, 4), 6)
	allocs(t, x, 3, 4, 6)
	puts(t, x, 3, api.KindLeaf, "three")
	x.Drop(4)
	getErr(t, x, 2, api.KindLeaf, api.ErrDown)
	getErr(t, x, 5, api.KindInner, api.ErrDown)
	getErr(t, x, 4, api.KindLeaf, api.ErrCorrupt)
	getErr(t, x, 6, api.KindLeaf, api.ErrCorrupt)
	getErr(t, x, 7, api.KindLeaf, api.ErrCorrupt)
	getErr(t, x, 0, api.KindLeaf, api.ErrCorrupt)
	getErr(t, x, -1, api.KindLeaf, api.ErrCorrupt)
	flushTells(t, x, api.ErrDown)
	flushTells(t, New(f, nil, 5), api.ErrDown)
	is(t, x, list(4, 4), 7, 3, 6)
	f.Crash(nil, 0, 0)
	gets(t, x, 2, api.KindLeaf, was(2))
	reads(t, f, 3, api.KindLeaf, was(3))
	flushTells(t, x, api.OK)
	reads(t, f, 3, api.KindLeaf, "three")
}

func TestNothings(t *testing.T) {
	for name, x := range nothings() {
		is(t, x, nil, 2)
		full(t, x)
		for _, id := range append(numbers(), 2, 3) {
			x.Drop(id)
			if x.Fresh(id) {
				t.Error(name, id)
			}
			putTells(t, x, id, api.KindLeaf, "", api.ErrArg)
			putTells(t, x, id, api.KindLeaf, strings.Repeat("x", 300), api.ErrArg)
			getErr(t, x, id, api.KindLeaf, api.ErrCorrupt)
			getErr(t, x, id, api.KindNone, api.ErrCorrupt)
		}
		flushTells(t, x, api.OK)
		is(t, x, nil, 2)
	}
}

// What is handed in is not changed and not kept, and what is told is the asker's own.
func TestNothingIsShared(t *testing.T) {
	free := list(6, 6, 3, 4)
	x := New(filled(9), free, 8)
	allocs(t, x, 3)
	if !slices.Equal(free, list(6, 6, 3, 4)) {
		t.Error("free was changed:", free)
	}
	free[0], free[1] = api.Run{From: 2, To: 2}, api.Run{From: 7, To: 7}
	is(t, x, list(4, 4, 6, 6), 8, 3)
	l := x.Free()
	l[0], l[1] = api.Run{From: 2, To: 7}, api.Run{From: 2, To: 7}
	is(t, x, list(4, 4, 6, 6), 8, 3)
	told := x.Free()
	taken := x.Taken()
	taken[0] = 7
	is(t, x, list(4, 4, 6, 6), 8, 3)
	x.Drop(3)
	allocs(t, x, 3, 4)
	if !slices.Equal(told, list(4, 4, 6, 6)) {
		t.Error("what was told changed:", told)
	}
}

// Changes know nothing of one another, but for the disk.
func TestChangesStandAlone(t *testing.T) {
	f := filled(9)
	x, y := New(f, list(3, 5), 8), New(f, list(3, 5), 8)
	allocs(t, x, 3, 4)
	puts(t, x, 3, api.KindLeaf, "three")
	is(t, y, list(3, 5), 8)
	putTells(t, y, 3, api.KindLeaf, "three", api.ErrArg)
	allocs(t, y, 3)
	getErr(t, y, 3, api.KindLeaf, api.ErrCorrupt)
	x.Drop(3)
	is(t, y, list(4, 5), 8, 3)
	is(t, x, list(3, 3, 5, 5), 8, 4)
	z := New(f, nil, 8)
	puts(t, y, 3, api.KindLeaf, "by y")
	gets(t, z, 3, api.KindLeaf, was(3))
	flushTells(t, y, api.OK)
	gets(t, z, 3, api.KindLeaf, "by y")
}
