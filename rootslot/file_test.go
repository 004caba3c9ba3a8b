package rootslot

import (
	"strings"
	"testing"

	"rootstock/api"
	"rootstock/disk"
	"rootstock/pagefile"
)

func loads(t testing.TB, f *pagefile.File, want api.Root) {
	t.Helper()
	if r, e := Load(f); r != want || e != api.OK {
		t.Errorf("Load = %v, %d, want %v", r, e, want)
	}
}

func loadErr(t testing.TB, f *pagefile.File, want api.Errno) {
	t.Helper()
	if r, e := Load(f); r != (api.Root{}) || e != want {
		t.Errorf("Load = %v, %d, want %d", r, e, want)
	}
}

func stores(t testing.TB, f *pagefile.File, r api.Root, want api.Errno) {
	t.Helper()
	if e := Store(f, r); e != want {
		t.Errorf("Store(%v) = %d, want %d", r, e, want)
	}
}

func slotIs(t testing.TB, d *disk.Disk, i int, want string) {
	t.Helper()
	if s := d.Sure(i); s != want {
		t.Errorf("slot %d is %x, want %x", i, s, want)
	}
}

// onNothing are files without any slot.
func onNothing() map[string]*pagefile.File {
	return map[string]*pagefile.File{
		"nil": nil, "New(nil)": pagefile.New(nil), "zero": {}, "a disk of none": pagefile.New(disk.New(0)),
		"a zero disk": pagefile.New(&disk.Disk{}), "a disk below none": pagefile.New(disk.New(-3)),
	}
}

// down is a file on a disk whose power is gone, and which was left a root in each slot, if it has both.
func down(sectors int) *pagefile.File {
	f := pagefile.New(disk.New(sectors))
	Store(f, api.Root{Epoch: 1})
	Store(f, api.Root{Epoch: 2})
	f.Break(0)
	f.PutSlot(0, noughts(256))
	return f
}

func TestAFileOfNoughtsHasNoRoot(t *testing.T) {
	for _, sectors := range []int{2, 3, 20, 16384} {
		loadErr(t, pagefile.New(disk.New(sectors)), api.ErrNoRoot)
	}
}

func TestFilesOnNothing(t *testing.T) {
	for name, f := range onNothing() {
		loadErr(t, f, api.ErrRange)
		stores(t, f, api.Root{Epoch: 1}, api.ErrRange)
		stores(t, f, api.Root{Epoch: 2}, api.ErrRange)
		stores(t, f, api.Root{}, api.ErrArg)
		stores(t, f, api.Root{Epoch: 1, Free: -1}, api.ErrArg)
		loadErr(t, f, api.ErrRange)
		if t.Failed() {
			t.Fatal(name)
		}
	}
}

// Both slots are read, whatever the first one has.
func TestADiskWithOneSlot(t *testing.T) {
	d := disk.New(1)
	f := pagefile.New(d)
	loadErr(t, f, api.ErrRange)
	stores(t, f, api.Root{Epoch: 4}, api.OK)
	slotIs(t, d, 0, bytesOf(api.Root{Epoch: 4}))
	loadErr(t, f, api.ErrRange)
	stores(t, f, api.Root{Epoch: 5}, api.ErrRange)
	slotIs(t, d, 0, bytesOf(api.Root{Epoch: 4}))
	loadErr(t, down(1), api.ErrDown)
	stores(t, down(1), api.Root{Epoch: 5}, api.ErrDown)
}

func TestLoadWithoutPower(t *testing.T) {
	f := down(4)
	loadErr(t, f, api.ErrDown)
	f.Crash(nil, 0, 0)
	loads(t, f, api.Root{Epoch: 2})
}

// Load is Pick of the slots: neither where a root stands nor whether it is sure makes a difference.
func TestLoadIsPickOfTheSlots(t *testing.T) {
	spoilt := over(bytesOf(api.Root{Epoch: 9}), 8, "\x01")
	texts := []string{noughts(256), spoilt, strings.Repeat("x", 256), bytesOf(api.Root{Epoch: 3, Pages: 9}), bytesOf(api.Root{Epoch: 4, Next: 2}), bytesOf(api.Root{Epoch: 4, Next: 3}), bytesOf(api.Root{Epoch: greatest})}
	for _, a := range texts {
		for _, b := range texts {
			f := pagefile.New(disk.New(3))
			f.PutSlot(0, a)
			f.PutSlot(1, b)
			want, err := Pick(a, b)
			if r, e := Load(f); r != want || e != err {
				t.Errorf("Load = %v, %d, want %v, %d", r, e, want, err)
			}
			f.Sync()
			if r, e := Load(f); r != want || e != err {
				t.Errorf("Load = %v, %d, want %v, %d", r, e, want, err)
			}
		}
	}
}

func TestLoadChangesNothing(t *testing.T) {
	d := disk.New(4)
	f := pagefile.New(d)
	stores(t, f, api.Root{Epoch: 1}, api.OK)
	f.Write(2, api.KindLeaf, "ab")
	d.Break(0)
	reads, writes := d.Reads(), d.Writes()
	loads(t, f, api.Root{Epoch: 1})
	loads(t, f, api.Root{Epoch: 1})
	if d.Reads() != reads+4 || d.Writes() != writes || d.Pending() != 1 || d.Down() {
		t.Error(d.Reads(), d.Writes(), d.Pending(), d.Down())
	}
}

func TestWhatIsStoredIsLoaded(t *testing.T) {
	for _, r := range someRoots() {
		d := disk.New(2)
		f := pagefile.New(d)
		stores(t, f, r, api.OK)
		loads(t, f, r)
		slotIs(t, d, r.Epoch%2, bytesOf(r))
		slotIs(t, d, 1-r.Epoch%2, noughts(256))
		if d.Pending() != 0 || d.Writes() != 1 {
			t.Error(d.Pending(), d.Writes())
		}
		d.Crash(nil, 0, 0)
		loads(t, f, r)
		loads(t, pagefile.New(d), r)
	}
}

func TestTheNextRootGoesIntoTheOtherSlot(t *testing.T) {
	for _, first := range []int{1, 2, 255, 1<<31 - 2, greatest - 8} {
		d := disk.New(2)
		f := pagefile.New(d)
		before := noughts(256)
		for epoch := first; epoch < first+9; epoch++ {
			r := api.Root{Epoch: epoch, Pages: epoch / 2, Next: 7}
			stores(t, f, r, api.OK)
			loads(t, f, r)
			slotIs(t, d, epoch%2, bytesOf(r))
			slotIs(t, d, 1-epoch%2, before)
			before = bytesOf(r)
		}
	}
}

func TestBehindTheGreatestEpochNothingIsStored(t *testing.T) {
	d := disk.New(2)
	f := pagefile.New(d)
	last := api.Root{Epoch: greatest}
	stores(t, f, last, api.OK)
	stores(t, f, api.Root{Epoch: greatest + 1}, api.ErrArg)
	stores(t, f, api.Root{Epoch: greatest + 2}, api.ErrArg)
	loads(t, f, last)
	if d.Writes() != 1 {
		t.Error(d.Writes())
	}
}

// Store asks neither which root there is, nor which is the greater one.
func TestARootIsStoredOverAnyOther(t *testing.T) {
	f := pagefile.New(disk.New(2))
	stores(t, f, api.Root{Epoch: 9, Pages: 1}, api.OK)
	stores(t, f, api.Root{Epoch: 9, Pages: 2}, api.OK)
	loads(t, f, api.Root{Epoch: 9, Pages: 2})
	stores(t, f, api.Root{Epoch: 4}, api.OK)
	loads(t, f, api.Root{Epoch: 9, Pages: 2})
	stores(t, f, api.Root{Epoch: 3}, api.OK)
	loads(t, f, api.Root{Epoch: 4})
}

func TestStoreMakesSureWhatWasWrittenAheadOfIt(t *testing.T) {
	d := disk.New(4)
	f := pagefile.New(d)
	f.Write(2, api.KindLeaf, "ab")
	f.Write(3, api.KindInner, "cd")
	stores(t, f, api.Root{Epoch: 1, Catalog: 2}, api.OK)
	d.Crash(nil, 0, 0)
	loads(t, f, api.Root{Epoch: 1, Catalog: 2})
	if s, e := f.Read(2, api.KindLeaf); s != "ab" || e != api.OK {
		t.Error(s, e)
	}
	if s, e := f.Read(3, api.KindInner); s != "cd" || e != api.OK {
		t.Error(s, e)
	}
}

func TestWhatIsNoRootIsToldAheadOfTheDisk(t *testing.T) {
	d := disk.New(4)
	f := pagefile.New(d)
	stores(t, f, api.Root{Epoch: 1}, api.OK)
	f.Write(2, api.KindLeaf, "ab")
	d.Break(0)
	for _, n := range badNumbers() {
		for place := range 5 {
			stores(t, f, with(place, n), api.ErrArg)
			stores(t, down(4), with(place, n), api.ErrArg)
			stores(t, down(1), with(place, n), api.ErrArg)
		}
	}
	stores(t, f, api.Root{}, api.ErrArg)
	stores(t, f, api.Root{Pages: 2, Next: 2}, api.ErrArg)
	if d.Pending() != 1 || d.Writes() != 2 || d.Down() {
		t.Error(d.Pending(), d.Writes(), d.Down())
	}
	loads(t, f, api.Root{Epoch: 1})
}

// Where the slot is not written, nothing is synced either.
func TestAStoreThatErrsChangesNothing(t *testing.T) {
	d := disk.New(1)
	f := pagefile.New(d)
	f.PutSlot(0, strings.Repeat("x", 256))
	stores(t, f, api.Root{Epoch: 1}, api.ErrRange)
	stores(t, f, api.Root{}, api.ErrArg)
	if d.Pending() != 1 || d.Sure(0) != noughts(256) {
		t.Error(d.Pending(), d.Sure(0))
	}
	g := down(4)
	stores(t, g, api.Root{Epoch: 3}, api.ErrDown)
	if g.Pending() != 1 || g.Sure(1) != bytesOf(api.Root{Epoch: 1}) {
		t.Error(g.Pending())
	}
}

// The power goes with the root's own write, and as many of its bytes as may be come to the disk: the last root is loaded, or the new one, and the root behind that is stored and loaded as ever.
func TestARootThatIsCutOff(t *testing.T) {
	for _, last := range []int{1, 2, 254, 255, 256, 65535, 1<<24 - 1, 1 << 24, greatest - 2} {
		for cut := -1; cut <= 257; cut++ {
			old, young := api.Root{Epoch: last, Pages: 3, Catalog: 2, Next: 2}, api.Root{Epoch: last + 1, Pages: 5, Catalog: 4, Next: 3}
			d := disk.New(2)
			f := pagefile.New(d)
			if last > 1 {
				stores(t, f, api.Root{Epoch: last - 1, Pages: 2}, api.OK)
			}
			stores(t, f, old, api.OK)
			d.Break(0)
			stores(t, f, young, api.ErrDown)
			loadErr(t, f, api.ErrDown)
			d.Crash([]int{0}, 0, cut)
			slotIs(t, d, last%2, bytesOf(old))
			if cut < 256 {
				loads(t, f, old)
			} else {
				loads(t, f, young)
			}
			stores(t, f, young, api.OK)
			loads(t, f, young)
			slotIs(t, d, last%2, bytesOf(old))
		}
	}
}

func TestARootThatIsNotKept(t *testing.T) {
	d := disk.New(2)
	f := pagefile.New(d)
	stores(t, f, api.Root{Epoch: 1}, api.OK)
	d.Break(0)
	stores(t, f, api.Root{Epoch: 2}, api.ErrDown)
	d.Crash(nil, 0, 256)
	loads(t, f, api.Root{Epoch: 1})
	slotIs(t, d, 0, noughts(256))
}

func TestTheFirstRootIsCutOff(t *testing.T) {
	for cut := range 256 {
		d := disk.New(2)
		f := pagefile.New(d)
		d.Break(0)
		stores(t, f, api.Root{Epoch: 1, Next: 2}, api.ErrDown)
		d.Crash([]int{0}, 0, cut)
		loadErr(t, f, api.ErrNoRoot)
	}
}

// A root is passed over when one of its bytes is another one: the other slot's is loaded.
func TestASpoiltSlotIsPassedOver(t *testing.T) {
	f := pagefile.New(disk.New(2))
	old, young := api.Root{Epoch: 6, Pages: 4}, api.Root{Epoch: 7, Pages: 5}
	for i := range 256 {
		stores(t, f, old, api.OK)
		stores(t, f, young, api.OK)
		loads(t, f, young)
		f.PutSlot(1, over(bytesOf(young), i, "\x40"))
		loads(t, f, old)
		f.PutSlot(0, over(bytesOf(old), 255-i, "\x02"))
		loadErr(t, f, api.ErrNoRoot)
	}
}

func TestFilesKnowEachOtherByTheirDiskAlone(t *testing.T) {
	d := disk.New(2)
	f, g, other := pagefile.New(d), pagefile.New(d), pagefile.New(disk.New(2))
	stores(t, f, api.Root{Epoch: 1, Pages: 2}, api.OK)
	loads(t, g, api.Root{Epoch: 1, Pages: 2})
	loadErr(t, other, api.ErrNoRoot)
	stores(t, g, api.Root{Epoch: 2, Pages: 3}, api.OK)
	loads(t, f, api.Root{Epoch: 2, Pages: 3})
}
