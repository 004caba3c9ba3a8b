package chain

import (
	"slices"
	"strings"
	"testing"

	"rootstock/api"
	"rootstock/disk"
	"rootstock/pagefile"
)

func file(sectors int) *pagefile.File {
	return pagefile.New(disk.New(sectors))
}

// onNothing are files without any page.
func onNothing() map[string]*pagefile.File {
	return map[string]*pagefile.File{
		"nil": nil, "New(nil)": pagefile.New(nil), "zero": {}, "a disk of none": file(0), "a zero disk": pagefile.New(&disk.Disk{}), "slots alone": file(2),
	}
}

func reads(t testing.TB, f *pagefile.File, head int, set []api.Run, ids []int) {
	t.Helper()
	if l, p, e := Read(f, head); !slices.Equal(l, set) || !slices.Equal(p, ids) || e != api.OK {
		t.Errorf("Read(%d) = %v, %v, %d, want %v, %v", head, l, p, e, set, ids)
	}
}

func readErr(t testing.TB, f *pagefile.File, head int, want api.Errno) {
	t.Helper()
	if l, p, e := Read(f, head); len(l) != 0 || len(p) != 0 || e != want {
		t.Errorf("Read(%d) = %v, %v, %d, want %d", head, l, p, e, want)
	}
}

func writes(t testing.TB, f *pagefile.File, l []api.Run, ids []int) {
	t.Helper()
	head := 0
	if len(ids) > 0 {
		head = ids[0]
	}
	if n, e := Write(f, l, ids); n != head || e != api.OK {
		t.Errorf("Write(%v, %v) = %d, %d", l, ids, n, e)
	}
}

func writeErr(t testing.TB, f *pagefile.File, l []api.Run, ids []int, want api.Errno) {
	t.Helper()
	if n, e := Write(f, l, ids); n != 0 || e != want {
		t.Errorf("Write(%v, %v) = %d, %d, want %d", l, ids, n, e, want)
	}
}

func pageIs(t testing.TB, f *pagefile.File, id, next int, l []api.Run) {
	t.Helper()
	want := bodyOf(next, len(l), l)
	if s, e := f.Read(id, api.KindChain); s != want || e != api.OK {
		t.Errorf("page %d is %x, %d, want %x", id, s, e, want)
	}
}

func unwritten(t testing.TB, f *pagefile.File, ids ...int) {
	t.Helper()
	for _, id := range ids {
		if s, _ := f.Disk.Read(id); s != strings.Repeat("\x00", 256) {
			t.Errorf("page %d is %x", id, s)
		}
	}
}

// put lays a page by its parts.
func put(f *pagefile.File, id, next int, l ...api.Run) {
	f.Write(id, api.KindChain, bodyOf(next, len(l), l))
}

// down is a file whose power is gone, with the chain 2, 3 on it.
func down(sectors int) *pagefile.File {
	f := file(sectors)
	Write(f, list(1, 3), []int{2, 3})
	f.Sync()
	f.Break(0)
	f.PutSlot(0, strings.Repeat("\x00", 256))
	return f
}

func TestWhatPagesHold(t *testing.T) {
	f := file(10)
	l := many(60)
	writes(t, f, l, []int{5, 3, 9, 2})
	pageIs(t, f, 5, 3, l[:29])
	pageIs(t, f, 3, 9, l[29:58])
	pageIs(t, f, 9, 2, l[58:])
	pageIs(t, f, 2, 0, nil)
	unwritten(t, f, 0, 1, 4, 6, 7, 8)
	reads(t, f, 5, l, []int{5, 3, 9, 2})
	reads(t, f, 3, l[29:], []int{3, 9, 2})
	reads(t, f, 9, l[58:], []int{9, 2})
	reads(t, f, 2, nil, []int{2})
}

// A chain's page is of KindChain alone.
func TestTheKindOfPages(t *testing.T) {
	f := file(4)
	writes(t, f, list(1, 3), []int{2})
	for kind := range 256 {
		if _, e := f.Read(2, api.Kind(kind)); (e == api.OK) != (kind == 3) {
			t.Error(kind, e)
		}
		f.Write(3, api.Kind(kind), bodyOf(0, 1, list(1, 3)))
		if kind == int(api.KindChain) {
			reads(t, f, 3, list(1, 3), []int{3})
		} else {
			readErr(t, f, 3, api.ErrCorrupt)
		}
	}
}

// From as many pages as a set needs, none more, to far more of them: all are of the chain, and the same set and pages are read.
func TestWhatWasWrittenIsRead(t *testing.T) {
	for _, n := range []int{0, 1, 2, 28, 29, 30, 57, 58, 59, 87, 88, 200} {
		for _, more := range []int{0, 1, 2, 5} {
			f := file(40)
			l := many(n)
			need := Pages(l)
			var ids []int
			for i := range need + more {
				ids = append(ids, 2+(7*i+n)%38)
			}
			writes(t, f, l, ids)
			if f.Writes() != need+more {
				t.Errorf("%d writes", f.Writes())
			}
			for i, id := range ids {
				pageIs(t, f, id, idOr0(ids, i+1), l[min(29*i, n):min(29*i+29, n)])
			}
			if len(ids) > 0 {
				reads(t, f, ids[0], l, ids)
			}
			if need > 0 {
				writeErr(t, f, l, ids[:need-1], api.ErrArg)
			}
		}
	}
}

func idOr0(ids []int, i int) int {
	for _, id := range ids[min(i, len(ids)):] {
		return id
	}
	return 0
}

// A list's set is written, not the list.
func TestASetIsWrittenInTheOneWay(t *testing.T) {
	f := file(4)
	writes(t, f, list(5, 7, 1, 2, 3, 3, 9, 8, -4, -1, greatest+1, high), []int{3})
	pageIs(t, f, 3, 0, list(1, 3, 5, 7))
	writes(t, f, list(low, high), []int{3})
	pageIs(t, f, 3, 0, list(0, greatest))
	writes(t, f, list(high, low, -1, -1), []int{3})
	pageIs(t, f, 3, 0, nil)
	writes(t, f, slices.Concat(many(29), many(29)), []int{3})
	pageIs(t, f, 3, 0, many(29))
	l := many(30)
	slices.Reverse(l)
	writes(t, f, l, []int{3, 2})
	pageIs(t, f, 3, 2, many(30)[:29])
	pageIs(t, f, 2, 0, many(30)[29:])
}

// The most that a disk holds.
func TestTheLongestChain(t *testing.T) {
	f := file(api.MaxSectors)
	var ids []int
	for id := api.MaxSectors - 1; id >= pagefile.First; id-- {
		ids = append(ids, id)
	}
	l := many(29 * len(ids))
	writeErr(t, f, append(slices.Clone(l), api.Run{From: greatest, To: greatest}), ids, api.ErrArg)
	writes(t, f, l, ids)
	set, pages, e := Read(f, ids[0])
	if !slices.Equal(set, l) || !slices.Equal(pages, ids) || e != api.OK || f.Reads() != len(ids) {
		t.Error(len(set), len(pages), e, f.Reads())
	}
	put(f, 2, api.MaxSectors-1)
	readErr(t, f, ids[0], api.ErrCorrupt)
	if f.Reads() > 2*len(ids) {
		t.Error("reads:", f.Reads())
	}
}

func TestNoIds(t *testing.T) {
	for _, f := range []*pagefile.File{nil, file(0), file(9), down(9)} {
		writes(t, f, nil, nil)
		writes(t, f, list(3, 2), []int{})
		writeErr(t, f, list(2, 2), nil, api.ErrArg)
		reads(t, f, 0, nil, nil)
	}
}

func TestTooFewPagesOrOneTwice(t *testing.T) {
	f := file(9)
	writes(t, f, list(7, 7), []int{5, 4})
	before := f.Writes()
	for _, c := range []struct {
		l   []api.Run
		ids []int
	}{
		{list(1, 1), nil},
		{many(30), []int{5}},
		{many(59), []int{5, 4}},
		{many(59), []int{5, -1}},
		{many(60), []int{5, 4, 5}},
		{nil, []int{5, 5}},
		{nil, []int{5, 4, 3, 5}},
		{nil, []int{2, 5, 4, 4}},
		{nil, []int{-1, -1}},
		{nil, []int{99, 99}},
		{nil, []int{0, 5, 0}},
		{nil, []int{high, 5, high}},
		{nil, []int{5, greatest + 1, 4, 5}},
	} {
		writeErr(t, f, c.l, c.ids, api.ErrArg)
		writeErr(t, nil, c.l, c.ids, api.ErrArg)
		writeErr(t, down(9), c.l, c.ids, api.ErrArg)
	}
	if f.Writes() != before {
		t.Error("it was written")
	}
	reads(t, f, 5, list(7, 7), []int{5, 4})
}

// Ids that four bytes hold stand as the next one, though no page has them; then their own turn comes.
func TestPagesAreWrittenTillOneErrs(t *testing.T) {
	for _, bad := range []int{0, 1, 9, 10, 16384, greatest} {
		f := file(9)
		writeErr(t, f, many(30), []int{5, 3, bad, 7}, api.ErrRange)
		pageIs(t, f, 5, 3, many(30)[:29])
		pageIs(t, f, 3, bad, many(30)[29:])
		unwritten(t, f, 2, 4, 6, 7, 8)
		if f.Writes() != 2 {
			t.Error(bad, f.Writes())
		}
		writeErr(t, file(9), many(30), []int{bad, 5}, api.ErrRange)
		writeErr(t, file(9), nil, []int{bad}, api.ErrRange)
	}
}

// Others do not: the page ahead of them is not written either.
func TestAPageIsNotWrittenAheadOfAnIdThatFourBytesDoNotHold(t *testing.T) {
	for _, bad := range outside() {
		f := file(9)
		writeErr(t, f, many(30), []int{5, 3, bad, 7}, api.ErrRange)
		pageIs(t, f, 5, 3, many(30)[:29])
		unwritten(t, f, 2, 3, 4, 6, 7, 8)
		if f.Writes() != 1 {
			t.Error(bad, f.Writes())
		}
		g := file(9)
		writeErr(t, g, many(30), []int{bad, 5}, api.ErrRange)
		writeErr(t, g, nil, []int{bad}, api.ErrRange)
		writeErr(t, g, nil, []int{5, bad}, api.ErrRange)
		if g.Writes() != 0 {
			t.Error(bad, g.Writes())
		}
	}
}

// What a page's next id is, is told ahead of the power.
func TestWriteWithoutPower(t *testing.T) {
	f := down(9)
	writeErr(t, f, nil, []int{5}, api.ErrDown)
	writeErr(t, f, many(30), []int{5, 3, 99}, api.ErrDown)
	writeErr(t, f, nil, []int{5, 3, -1}, api.ErrDown)
	writeErr(t, f, nil, []int{5, -1}, api.ErrRange)
	writeErr(t, f, nil, []int{5, greatest + 1, 6}, api.ErrRange)
	writeErr(t, f, nil, []int{99, 5}, api.ErrRange)
	writeErr(t, f, many(30), []int{5}, api.ErrArg)
	if f.Pending() != 1 {
		t.Error(f.Pending())
	}
}

// Nothing is sure till who publishes the chain syncs; and the writes come in the order of the ids.
func TestPagesArePendingInTheirOrder(t *testing.T) {
	ids := []int{6, 2, 8, 3}
	for n, id := range ids {
		f := file(9)
		writes(t, f, many(70), ids)
		if f.Pending() != 4 {
			t.Fatal(f.Pending())
		}
		f.Crash([]int{n}, -1, 0)
		pageIs(t, f, id, idOr0(ids, n+1), many(70)[min(29*n, 70):min(29*n+29, 70)])
		for _, other := range ids {
			if other != id {
				unwritten(t, f, other)
			}
		}
	}
}

func TestThePowerGoesInAWrite(t *testing.T) {
	ids := []int{6, 2, 8, 3}
	for n := range ids {
		f := file(9)
		f.Break(n)
		writeErr(t, f, many(70), ids, api.ErrDown)
		readErr(t, f, 6, api.ErrDown)
		if f.Writes() != n+1 || f.Pending() != n+1 {
			t.Error(n, f.Writes(), f.Pending())
		}
		f.Crash([]int{0, 1, 2, 3}, -1, 0)
		if n == 3 {
			reads(t, f, 6, many(70), ids)
		} else {
			readErr(t, f, 6, api.ErrCorrupt)
		}
		writes(t, f, many(70), ids)
		reads(t, f, 6, many(70), ids)
	}
}

func TestHeadsThatNoPageHas(t *testing.T) {
	for _, head := range append(outside(), 1, 9, 10, 16384, greatest) {
		f := file(9)
		readErr(t, f, head, api.ErrCorrupt)
		readErr(t, down(9), head, api.ErrCorrupt)
		if f.Reads() != 0 {
			t.Error(head, f.Reads())
		}
	}
	f := file(9)
	for head := 2; head < 9; head++ {
		readErr(t, f, head, api.ErrCorrupt)
		readErr(t, down(9), head, api.ErrDown)
	}
}

func TestANextThatNoPageHas(t *testing.T) {
	f := file(9)
	for _, next := range []int{1, 9, 10, 16384, 1 << 31, greatest - 1, greatest} {
		put(f, 5, 3, list(1, 3)...)
		put(f, 3, next, list(7, 9)...)
		readErr(t, f, 5, api.ErrCorrupt)
		readErr(t, f, 3, api.ErrCorrupt)
	}
}

func TestReadIsTheSetOfAllPages(t *testing.T) {
	f := file(9)
	put(f, 5, 3, list(9, 12, 1, 3)...)
	put(f, 3, 7, list(11, 20, 4, 4)...)
	put(f, 7, 2)
	put(f, 2, 0, list(0, 0, 22, greatest)...)
	reads(t, f, 5, list(0, 4, 9, 20, 22, greatest), []int{5, 3, 7, 2})
	reads(t, f, 3, list(0, 0, 4, 4, 11, 20, 22, greatest), []int{3, 7, 2})
	if f.Pending() != 4 || f.Writes() != 4 {
		t.Error(f.Pending(), f.Writes())
	}
}

func TestAPageThatComesTwice(t *testing.T) {
	f := file(40)
	for length := 1; length <= 38; length++ {
		for back := range length {
			for i := range length {
				put(f, 2+i, 3+i, list(i, i)...)
			}
			put(f, 1+length, 2+back)
			reads := f.Reads()
			readErr(t, f, 2, api.ErrCorrupt)
			if f.Reads()-reads > 40 {
				t.Errorf("%d pages, back to %d: %d reads", length, back, f.Reads()-reads)
			}
		}
	}
}

func TestSpoiltChains(t *testing.T) {
	f := file(9)
	ids := []int{5, 3, 7}
	writes(t, f, many(60), ids)
	f.Sync()
	for _, id := range ids {
		for _, body := range []string{"", "\x00", bodyOf(0, 1, nil), bodyOf(0, 1, list(3, 2)), bodyOf(0, 0, nil) + "\x00", bodyOf(0, 30, nil), strings.Repeat("\xff", 240)} {
			f.Write(id, api.KindChain, body)
			readErr(t, f, 5, api.ErrCorrupt)
			f.Crash(nil, 0, 0)
		}
		for i := range 256 {
			good, _ := f.Disk.Read(id)
			f.Disk.Write(id, good[:i]+string([]byte{good[i] ^ 4})+good[i+1:])
			readErr(t, f, 5, api.ErrCorrupt)
			f.Crash(nil, 0, 0)
		}
		f.Write(id, api.KindLeaf, bodyOf(0, 0, nil))
		readErr(t, f, 5, api.ErrCorrupt)
		f.Crash(nil, 0, 0)
	}
	reads(t, f, 5, many(60), ids)
}

func TestFilesOnNothing(t *testing.T) {
	for name, f := range onNothing() {
		writes(t, f, nil, nil)
		reads(t, f, 0, nil, nil)
		for _, id := range []int{-1, 0, 1, 2, 3, greatest, high} {
			writeErr(t, f, nil, []int{id}, api.ErrRange)
			writeErr(t, f, many(30), []int{id}, api.ErrArg)
			if id != 0 {
				readErr(t, f, id, api.ErrCorrupt)
			}
		}
		if t.Failed() {
			t.Fatal(name)
		}
	}
}

// A chain is gone through till it is enough, or one page is wrong.
func TestLinks(t *testing.T) {
	f := file(9)
	writes(t, f, many(70), []int{5, 3, 7, 2})
	for enough := 1; enough <= 4; enough++ {
		told, before := 0, f.Reads()
		for range links(f, 5) {
			if told++; told == enough {
				break
			}
		}
		if told != enough || f.Reads() != before+enough {
			t.Error(enough, told, f.Reads()-before)
		}
	}
	put(f, 2, 3)
	var ids []int
	for id, page := range links(f, 5) {
		if (page.err != api.OK) != (len(ids) == 4) {
			t.Error(id, page.err)
		}
		ids = append(ids, id)
	}
	if !slices.Equal(ids, []int{5, 3, 7, 2, 3}) {
		t.Error(ids)
	}
}
