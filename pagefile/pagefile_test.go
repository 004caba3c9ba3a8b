package pagefile

import (
	"math"
	"strings"
	"testing"

	"rootstock/api"
	"rootstock/disk"
	"rootstock/page"
)

// The calls keep the signatures that the chapter lists.
var (
	_ func(*disk.Disk) *File                         = New
	_ func(*File, int, api.Kind) (string, api.Errno) = (*File).Read
	_ func(*File, int, api.Kind, string) api.Errno   = (*File).Write
	_ func(*File) api.Errno                          = (*File).Sync
	_ func(*File) int                                = (*File).Room
	_ func(*File, int) (string, api.Errno)           = (*File).Slot
	_ func(*File, int, string) api.Errno             = (*File).PutSlot
	_ interface {
		Crash(keep []int, torn, cut int)
	} = (*File)(nil)
	_ interface{ Sure(int) string } = (*File)(nil)
	_ interface{ Sectors() int }    = (*File)(nil)
	_ interface{ Break(int) }       = (*File)(nil)
	_ interface{ Down() bool }      = (*File)(nil)
	_ interface{ Pending() int }    = (*File)(nil)
	_ interface{ Reads() int }      = (*File)(nil)
	_ interface{ Writes() int }     = (*File)(nil)
)

// full is a sector full of one text, over and over.
func full(s string) string {
	return strings.Repeat(s, 256)[:256]
}

func noughts() string {
	return full("\x00")
}

// long is a body that no page holds.
func long() string {
	return strings.Repeat("x", 241)
}

// noSlots are numbers that no slot has.
func noSlots() []int {
	return []int{-1, -2, 2, 3, 4, 255, 256, 1 << 32, 1<<32 + 1, math.MinInt, math.MaxInt}
}

// noPages are numbers that no page of a file on a disk of so many sectors has.
func noPages(sectors int) []int {
	return []int{1, 0, -1, -2, max(sectors, 2), sectors + 3, 16384, 1 << 32, 1<<32 + 2, 1<<32 + 3, 1 << 62, math.MinInt, math.MinInt + 2, math.MaxInt}
}

func reads(t testing.TB, f *File, id int, kind api.Kind, body string) {
	t.Helper()
	if s, e := f.Read(id, kind); s != body || e != api.OK {
		t.Errorf("Read(%d, %d) = %q, %d, want %q", id, kind, s, e, body)
	}
}

func readErr(t testing.TB, f *File, id int, kind api.Kind, want api.Errno) {
	t.Helper()
	if s, e := f.Read(id, kind); s != "" || e != want {
		t.Errorf("Read(%d, %d) = %q, %d, want %d", id, kind, s, e, want)
	}
}

func writes(t testing.TB, f *File, id int, kind api.Kind, body string, want api.Errno) {
	t.Helper()
	if e := f.Write(id, kind, body); e != want {
		t.Errorf("Write(%d, %d, %d bytes) = %d, want %d", id, kind, len(body), e, want)
	}
}

func slotIs(t testing.TB, f *File, i int, want string) {
	t.Helper()
	if s, e := f.Slot(i); s != want || e != api.OK {
		t.Errorf("Slot(%d) = %q, %d, want %q", i, s, e, want)
	}
}

func slotErr(t testing.TB, f *File, i int, want api.Errno) {
	t.Helper()
	if s, e := f.Slot(i); s != "" || e != want {
		t.Errorf("Slot(%d) = %q, %d, want %d", i, s, e, want)
	}
}

func puts(t testing.TB, f *File, i int, s string, want api.Errno) {
	t.Helper()
	if e := f.PutSlot(i, s); e != want {
		t.Errorf("PutSlot(%d, %d bytes) = %d, want %d", i, len(s), e, want)
	}
}

// down is a file on a disk whose power is gone, with nothing pending.
func down(sectors int) *File {
	d := disk.New(sectors)
	d.Break(0)
	d.Write(0, noughts())
	return New(d)
}

func TestExample(t *testing.T) {
	f := New(disk.New(4))
	writes(t, f, 1, api.KindLeaf, "ab", api.ErrRange)
	writes(t, f, 3, api.KindLeaf, "ab", api.OK)
	reads(t, f, 3, api.KindLeaf, "ab")
	readErr(t, f, 3, api.KindInner, api.ErrCorrupt)
	readErr(t, f, 2, api.KindLeaf, api.ErrCorrupt)
	if f.Room() != 4 {
		t.Error(f.Room())
	}
}

func TestRoomIsTheNumberOfSectorsButNotBelowTwo(t *testing.T) {
	for sectors, want := range map[int]int{-5: 2, 0: 2, 1: 2, 2: 2, 3: 3, 4: 4, 100: 100, 16383: 16383, 16384: 16384, 16385: 16384, math.MaxInt: 16384, math.MinInt: 2} {
		f := New(disk.New(sectors))
		if f.Room() != want {
			t.Errorf("%d sectors: Room = %d", sectors, f.Room())
		}
		readErr(t, f, f.Room(), api.KindLeaf, api.ErrRange)
		if want > First {
			writes(t, f, f.Room()-1, api.KindLeaf, "last", api.OK)
			reads(t, f, f.Room()-1, api.KindLeaf, "last")
		}
	}
	if First != 2 {
		t.Error(First)
	}
}

func TestRoomIsToldWithoutPower(t *testing.T) {
	if f := down(7); f.Room() != 7 {
		t.Error(f.Room())
	}
}

func TestEachPageStandsInTheSectorOfItsNumber(t *testing.T) {
	d := disk.New(12)
	f := New(d)
	for id := First; id < 12; id++ {
		body := strings.Repeat("b", id)
		writes(t, f, id, api.Kind(id), body, api.OK)
		want, _ := page.Seal(id, api.Kind(id), body)
		if s, e := d.Read(id); s != want || e != api.OK {
			t.Errorf("sector %d is %x, %d", id, s, e)
		}
	}
	for i := range First {
		if s, _ := d.Read(i); s != noughts() {
			t.Errorf("slot %d is %x", i, s)
		}
	}
}

func TestBodiesAndKinds(t *testing.T) {
	f := New(disk.New(3))
	for kind := range 256 {
		for _, body := range []string{"", "a", "\x00", "ab\x00\x00", strings.Repeat("\xff", 239), strings.Repeat("y", 240), strings.Repeat("\x00", 240)} {
			writes(t, f, 2, api.Kind(kind), body, api.OK)
			reads(t, f, 2, api.Kind(kind), body)
			for _, other := range []int{kind + 1, kind - 1, kind ^ 128, 255 - kind} {
				readErr(t, f, 2, api.Kind(other), api.ErrCorrupt)
			}
		}
	}
}

func TestPagesThatThereAreNot(t *testing.T) {
	for _, sectors := range []int{0, 1, 2, 3, 4, 100} {
		d := disk.New(sectors)
		f := New(d)
		for _, id := range noPages(sectors) {
			readErr(t, f, id, api.KindLeaf, api.ErrRange)
			readErr(t, f, id, api.KindNone, api.ErrRange)
			writes(t, f, id, api.KindLeaf, "ab", api.ErrRange)
			writes(t, f, id, api.KindLeaf, long(), api.ErrRange)
		}
		if d.Pending() != 0 || d.Reads() != 0 || d.Writes() != 0 {
			t.Errorf("%d sectors: %d pending, %d reads, %d writes", sectors, d.Pending(), d.Reads(), d.Writes())
		}
	}
}

// A slot is read as no page, even if it holds one.
func TestAPageInASlotIsNotRead(t *testing.T) {
	f := New(disk.New(4))
	for i := range First {
		s, _ := page.Seal(i, api.KindLeaf, "ab")
		puts(t, f, i, s, api.OK)
		readErr(t, f, i, api.KindLeaf, api.ErrRange)
	}
}

func TestWriteRefusesLongBodies(t *testing.T) {
	f := New(disk.New(4))
	writes(t, f, 3, api.KindLeaf, "ab", api.OK)
	for _, n := range []int{241, 242, 256, 65536, 65538, 1 << 20} {
		writes(t, f, 3, api.KindLeaf, strings.Repeat("x", n), api.ErrPageLong)
	}
	reads(t, f, 3, api.KindLeaf, "ab")
	if f.Pending() != 1 {
		t.Error(f.Pending())
	}
}

func TestThePlaceIsToldAheadOfTheBodyAndTheBodyAheadOfThePower(t *testing.T) {
	f := down(4)
	for _, id := range noPages(4) {
		readErr(t, f, id, api.KindLeaf, api.ErrRange)
		writes(t, f, id, api.KindLeaf, long(), api.ErrRange)
		writes(t, f, id, api.KindLeaf, "ab", api.ErrRange)
	}
	writes(t, f, 3, api.KindLeaf, long(), api.ErrPageLong)
	writes(t, f, 3, api.KindLeaf, "ab", api.ErrDown)
	readErr(t, f, 3, api.KindLeaf, api.ErrDown)
	for _, i := range noSlots() {
		slotErr(t, f, i, api.ErrRange)
		puts(t, f, i, noughts(), api.ErrRange)
		puts(t, f, i, "short", api.ErrRange)
	}
	for i := range First {
		slotErr(t, f, i, api.ErrDown)
		puts(t, f, i, noughts(), api.ErrDown)
		puts(t, f, i, "short", api.ErrDown)
	}
	if e := f.Sync(); e != api.ErrDown {
		t.Error(e)
	}
}

// With a disk that has fewer than both slots, the disk itself tells what there is not.
func TestSlotsThatTheDiskHasNot(t *testing.T) {
	none, one := New(disk.New(0)), New(disk.New(1))
	for i := range First {
		slotErr(t, none, i, api.ErrRange)
		puts(t, none, i, noughts(), api.ErrRange)
	}
	puts(t, one, 0, full("a"), api.OK)
	slotIs(t, one, 0, full("a"))
	slotErr(t, one, 1, api.ErrRange)
	puts(t, one, 1, noughts(), api.ErrRange)
	puts(t, one, 1, "short", api.ErrRange)
	bare := down(1)
	slotErr(t, bare, 1, api.ErrDown)
	puts(t, bare, 1, noughts(), api.ErrDown)
}

func TestSlotsAreTheFirstTwoSectors(t *testing.T) {
	d := disk.New(4)
	f := New(d)
	for i := range First {
		slotIs(t, f, i, noughts())
		puts(t, f, i, full(string([]byte{byte('a' + i)})), api.OK)
	}
	for i := range First {
		want := full(string([]byte{byte('a' + i)}))
		slotIs(t, f, i, want)
		if s, e := d.Read(i); s != want || e != api.OK {
			t.Errorf("sector %d is %q, %d", i, s, e)
		}
	}
	for i := First; i < 4; i++ {
		if s, _ := d.Read(i); s != noughts() {
			t.Errorf("sector %d is %q", i, s)
		}
	}
}

func TestNoOtherSlots(t *testing.T) {
	d := disk.New(8)
	f := New(d)
	for _, i := range noSlots() {
		slotErr(t, f, i, api.ErrRange)
		puts(t, f, i, full("s"), api.ErrRange)
		puts(t, f, i, "", api.ErrRange)
	}
	if d.Pending() != 0 || d.Reads() != 0 {
		t.Error(d.Pending(), d.Reads())
	}
}

func TestASlotTakesJustASector(t *testing.T) {
	f := New(disk.New(4))
	puts(t, f, 0, full("a"), api.OK)
	for _, n := range []int{0, 1, 240, 255, 257, 512, 1 << 20} {
		puts(t, f, 0, strings.Repeat("s", n), api.ErrArg)
	}
	slotIs(t, f, 0, full("a"))
	if f.Pending() != 1 {
		t.Error(f.Pending())
	}
}

func TestWhatWasWrittenIsReadTillItIsWrittenOver(t *testing.T) {
	f := New(disk.New(6))
	for id := First; id < 6; id++ {
		writes(t, f, id, api.KindLeaf, strings.Repeat("a", id), api.OK)
	}
	puts(t, f, 0, full("0"), api.OK)
	puts(t, f, 1, full("1"), api.OK)
	writes(t, f, 4, api.KindInner, "new", api.OK)
	for id := First; id < 6; id++ {
		if id != 4 {
			reads(t, f, id, api.KindLeaf, strings.Repeat("a", id))
		}
	}
	reads(t, f, 4, api.KindInner, "new")
	readErr(t, f, 4, api.KindLeaf, api.ErrCorrupt)
	slotIs(t, f, 0, full("0"))
	slotIs(t, f, 1, full("1"))
}

func TestSyncMakesPagesAndSlotsSure(t *testing.T) {
	d := disk.New(4)
	f := New(d)
	writes(t, f, 2, api.KindLeaf, "kept", api.OK)
	puts(t, f, 1, full("k"), api.OK)
	if e := f.Sync(); e != api.OK || d.Pending() != 0 {
		t.Error(e, d.Pending())
	}
	writes(t, f, 2, api.KindLeaf, "lost", api.OK)
	writes(t, f, 3, api.KindChain, "lost", api.OK)
	puts(t, f, 1, full("l"), api.OK)
	d.Crash(nil, 0, 0)
	reads(t, f, 2, api.KindLeaf, "kept")
	readErr(t, f, 3, api.KindChain, api.ErrCorrupt)
	slotIs(t, f, 1, full("k"))
}

func TestAWriteWithWhichThePowerGoesIsPending(t *testing.T) {
	d := disk.New(4)
	f := New(d)
	d.Break(2)
	writes(t, f, 1, api.KindLeaf, "no write", api.ErrRange)
	writes(t, f, 2, api.KindLeaf, long(), api.ErrPageLong)
	puts(t, f, 0, "short", api.ErrArg)
	writes(t, f, 2, api.KindLeaf, "two", api.OK)
	puts(t, f, 0, full("s"), api.OK)
	writes(t, f, 3, api.KindLeaf, "three", api.ErrDown)
	readErr(t, f, 2, api.KindLeaf, api.ErrDown)
	if d.Pending() != 3 || f.Sync() != api.ErrDown {
		t.Error(d.Pending())
	}
	d.Crash([]int{2}, -1, 0)
	readErr(t, f, 2, api.KindLeaf, api.ErrCorrupt)
	slotIs(t, f, 0, noughts())
	reads(t, f, 3, api.KindLeaf, "three")
}

func TestATornPageIsNotRead(t *testing.T) {
	for cut := range 257 {
		d := disk.New(3)
		f := New(d)
		writes(t, f, 2, api.KindLeaf, strings.Repeat("old", 80), api.OK)
		f.Sync()
		writes(t, f, 2, api.KindLeaf, strings.Repeat("new", 80), api.OK)
		d.Crash([]int{0}, 0, cut)
		switch {
		case cut == 0:
			reads(t, f, 2, api.KindLeaf, strings.Repeat("old", 80))
		case cut == 256:
			reads(t, f, 2, api.KindLeaf, strings.Repeat("new", 80))
		default:
			readErr(t, f, 2, api.KindLeaf, api.ErrCorrupt)
		}
	}
}

func TestSpoiltPagesAreNotRead(t *testing.T) {
	d := disk.New(4)
	f := New(d)
	writes(t, f, 2, api.KindLeaf, "ab", api.OK)
	good, _ := d.Read(2)
	for i := range len(good) {
		b := []byte(good)
		b[i] ^= 1
		d.Write(2, string(b))
		readErr(t, f, 2, api.KindLeaf, api.ErrCorrupt)
	}
	d.Write(2, good)
	reads(t, f, 2, api.KindLeaf, "ab")
	d.Write(3, good)
	readErr(t, f, 3, api.KindLeaf, api.ErrCorrupt)
}

// A sector of noughts is no page, not even one of KindNone.
func TestPagesThatWereNeverWritten(t *testing.T) {
	f := New(disk.New(5))
	for id := First; id < 5; id++ {
		for kind := range 256 {
			readErr(t, f, id, api.Kind(kind), api.ErrCorrupt)
		}
	}
}

func TestTheDisksMethodsArePromoted(t *testing.T) {
	d := disk.New(4)
	f := New(d)
	f.Write(2, api.KindLeaf, "ab")
	f.Read(2, api.KindLeaf)
	f.Slot(0)
	if f.Sectors() != 4 || f.Pending() != 1 || f.Writes() != 1 || f.Reads() != 2 || f.Down() || f.Sure(2) != noughts() {
		t.Error(f.Sectors(), f.Pending(), f.Writes(), f.Reads(), f.Down())
	}
	f.Break(0)
	writes(t, f, 3, api.KindLeaf, "cd", api.ErrDown)
	if !f.Down() || !d.Down() {
		t.Error("the power is there")
	}
	f.Crash([]int{0, 1}, -1, 0)
	if f.Down() || d.Pending() != 0 {
		t.Error("the power is gone")
	}
	reads(t, f, 2, api.KindLeaf, "ab")
	reads(t, f, 3, api.KindLeaf, "cd")
}

func TestTwoFilesOnOneDiskSeeTheSame(t *testing.T) {
	d := disk.New(4)
	f, g := New(d), New(d)
	writes(t, f, 2, api.KindLeaf, "ab", api.OK)
	puts(t, g, 1, full("s"), api.OK)
	reads(t, g, 2, api.KindLeaf, "ab")
	slotIs(t, f, 1, full("s"))
	other := New(disk.New(4))
	readErr(t, other, 2, api.KindLeaf, api.ErrCorrupt)
	slotIs(t, other, 1, noughts())
}

func TestFilesOnNoDisk(t *testing.T) {
	empty := &disk.Disk{}
	for name, f := range map[string]*File{"New(nil)": New(nil), "a disk of none": New(disk.New(0)), "a zero disk": New(empty), "nil": nil, "zero": {}} {
		if f.Room() != 2 || f.Sync() != api.OK {
			t.Error(name, f.Room())
		}
		for _, id := range append(noPages(0), 0, 1, 2, 3) {
			readErr(t, f, id, api.KindLeaf, api.ErrRange)
			writes(t, f, id, api.KindLeaf, "ab", api.ErrRange)
			writes(t, f, id, api.KindLeaf, long(), api.ErrRange)
		}
		for _, i := range append(noSlots(), 0, 1) {
			slotErr(t, f, i, api.ErrRange)
			puts(t, f, i, noughts(), api.ErrRange)
			puts(t, f, i, "short", api.ErrRange)
		}
		if f != nil && (f.Sectors() != 0 || f.Pending() != 0 || f.Down() || f.Reads() != 0 || f.Writes() != 0 || f.Sure(0) != "") {
			t.Error(name, "has sectors")
		}
	}
}

func TestTwoFilesOnNoDiskKnowNothingOfEachOther(t *testing.T) {
	if New(nil).Disk == New(nil).Disk {
		t.Error("they share a disk")
	}
}
