package disk

import (
	"math"
	"slices"
	"strings"
	"sync"
	"testing"

	"rootstock/api"
)

func full(s string) string { return strings.Repeat(s, 256) }

var noughts = full("\x00")

func wantErr(t *testing.T, what string, got, want api.Errno) {
	t.Helper()
	if got != want {
		t.Errorf("%s: %d, want %d", what, got, want)
	}
}

func wantRead(t *testing.T, d *Disk, i int, want string) {
	t.Helper()
	if s, err := d.Read(i); s != want || err != api.OK {
		t.Errorf("Read(%d) = %q, %d, want %q", i, s, err, want)
	}
}

func wantSure(t *testing.T, d *Disk, i int, want string) {
	t.Helper()
	if s := d.Sure(i); s != want {
		t.Errorf("Sure(%d) = %q, want %q", i, s, want)
	}
}

func write3(t *testing.T) *Disk {
	t.Helper()
	d := New(3)
	wantErr(t, "Write(0, a)", d.Write(0, full("a")), api.OK)
	wantErr(t, "Write(0, b)", d.Write(0, full("b")), api.OK)
	wantErr(t, "Write(1, c)", d.Write(1, full("c")), api.OK)
	return d
}

func TestNew(t *testing.T) {
	for _, c := range []struct{ sectors, want int }{
		{math.MinInt, 0}, {-1, 0}, {0, 0}, {1, 1}, {2, 2}, {300, 300},
		{16383, 16383}, {16384, 16384}, {16385, 16384}, {1<<32 + 3, 16384}, {math.MaxInt, 16384},
	} {
		d := New(c.sectors)
		if d.Sectors() != c.want {
			t.Errorf("New(%d) has %d sectors, want %d", c.sectors, d.Sectors(), c.want)
		}
		if d.Pending() != 0 || d.Down() || d.Reads() != 0 || d.Writes() != 0 {
			t.Errorf("New(%d): %d pending, down %v, %d reads, %d writes", c.sectors, d.Pending(), d.Down(), d.Reads(), d.Writes())
		}
		for i := range c.want {
			if s, err := d.Read(i); s != noughts || err != api.OK || d.Sure(i) != noughts {
				t.Fatalf("New(%d): sector %d is %q, %d, sure %q", c.sectors, i, s, err, d.Sure(i))
			}
		}
		_, err := d.Read(c.want)
		wantErr(t, "Read behind the last sector", err, api.ErrRange)
		wantErr(t, "Write behind the last sector", d.Write(c.want, noughts), api.ErrRange)
		wantSure(t, d, c.want, "")
	}
}

func TestExample(t *testing.T) {
	d := write3(t)
	if d.Pending() != 3 {
		t.Errorf("Pending = %d", d.Pending())
	}
	d.Crash([]int{0, 2}, 2, 3)
	wantRead(t, d, 0, full("a"))
	wantRead(t, d, 1, "ccc"+noughts[3:])
	wantRead(t, d, 2, noughts)

	d = New(1)
	d.Write(0, full("1"))
	d.Write(0, full("2"))
	d.Crash([]int{0}, -1, 0)
	wantRead(t, d, 0, full("1"))
}

func TestReadsAsTheLastWrite(t *testing.T) {
	d := write3(t)
	wantRead(t, d, 0, full("b"))
	wantRead(t, d, 1, full("c"))
	wantRead(t, d, 2, noughts)
	for i := range 3 {
		wantSure(t, d, i, noughts)
	}
	wantErr(t, "Sync", d.Sync(), api.OK)
	if d.Pending() != 0 {
		t.Errorf("%d pending behind Sync", d.Pending())
	}
	for i, s := range []string{full("b"), full("c"), noughts} {
		wantRead(t, d, i, s)
		wantSure(t, d, i, s)
	}
	wantErr(t, "Write(0, d)", d.Write(0, full("d")), api.OK)
	wantRead(t, d, 0, full("d"))
	wantSure(t, d, 0, full("b"))
	if d.Pending() != 1 {
		t.Errorf("Pending = %d", d.Pending())
	}
}

func TestErrorsInTheirOrder(t *testing.T) {
	d := New(2)
	for _, i := range []int{math.MinInt, -1 << 32, -1, 2, 3, 16384, 1 << 32, math.MaxInt} {
		s, err := d.Read(i)
		if s != "" {
			t.Errorf("Read(%d) = %q", i, s)
		}
		wantErr(t, "Read", err, api.ErrRange)
		wantErr(t, "Write", d.Write(i, noughts), api.ErrRange)
		wantErr(t, "Write of another length", d.Write(i, "x"), api.ErrRange)
		wantSure(t, d, i, "")
	}
	for _, n := range []int{0, 1, 255, 257, 512, 65792} {
		wantErr(t, "Write of another length", d.Write(1, strings.Repeat("x", n)), api.ErrArg)
	}
	if d.Pending() != 0 || d.Reads() != 0 || d.Writes() != 0 || d.Down() {
		t.Errorf("wrong calls changed something: %d pending, %d reads, %d writes, down %v", d.Pending(), d.Reads(), d.Writes(), d.Down())
	}
	wantSure(t, d, 1, noughts)

	d.Break(0)
	wantErr(t, "Write", d.Write(0, full("x")), api.ErrDown)
	for _, i := range []int{-1, 0, 1, 2} {
		s, err := d.Read(i)
		if s != "" {
			t.Errorf("Read(%d) = %q, down", i, s)
		}
		wantErr(t, "Read, down", err, api.ErrDown)
		wantErr(t, "Write, down", d.Write(i, noughts), api.ErrDown)
		wantErr(t, "Write of another length, down", d.Write(i, "x"), api.ErrDown)
	}
	wantErr(t, "Sync, down", d.Sync(), api.ErrDown)
	wantSure(t, d, 0, noughts)
	wantSure(t, d, 1, noughts)
	wantSure(t, d, 2, "")
	if d.Pending() != 1 || d.Writes() != 1 || d.Reads() != 0 || !d.Down() {
		t.Errorf("%d pending, %d writes, %d reads, down %v", d.Pending(), d.Writes(), d.Reads(), d.Down())
	}
}

func TestBreak(t *testing.T) {
	for n := range 6 {
		d := New(2)
		d.Break(n)
		for k := range n {
			wantErr(t, "Write ahead", d.Write(k%2, full("x")), api.OK)
			wantErr(t, "Write that errs", d.Write(2, full("x")), api.ErrRange)
			wantErr(t, "Write that errs", d.Write(0, "x"), api.ErrArg)
			wantErr(t, "Sync", d.Sync(), api.OK)
			if d.Down() {
				t.Fatalf("Break(%d): down behind %d", n, k+1)
			}
		}
		wantErr(t, "Write with which the power goes", d.Write(1, full("y")), api.ErrDown)
		if !d.Down() || d.Pending() != 1 || d.Writes() != n+1 {
			t.Errorf("Break(%d): down %v, %d pending, %d writes", n, d.Down(), d.Pending(), d.Writes())
		}
		d.Crash([]int{0}, -1, 0)
		wantRead(t, d, 1, full("y"))
		if d.Down() || d.Pending() != 0 || d.Writes() != n+1 {
			t.Errorf("Break(%d), Crash: down %v, %d pending, %d writes", n, d.Down(), d.Pending(), d.Writes())
		}
	}
}

func TestBreakInThePlaceOfAnother(t *testing.T) {
	for _, c := range []struct {
		breaks []int
		well   int // how many writes go well; below 0: all
	}{
		{[]int{0, -1}, -1}, {[]int{0, math.MinInt}, -1}, {[]int{-1}, -1}, {[]int{math.MaxInt}, -1},
		{[]int{0, 3}, 3}, {[]int{3, 0}, 0}, {[]int{-1, 2}, 2}, {[]int{math.MaxInt, 1}, 1},
	} {
		d := New(1)
		for _, n := range c.breaks {
			d.Break(n)
		}
		for k := range 10 {
			want := api.OK
			if c.well >= 0 && k >= c.well {
				want = api.ErrDown
			}
			wantErr(t, "Write", d.Write(0, noughts), want)
		}
		if d.Down() != (c.well >= 0) {
			t.Errorf("%v: down %v", c.breaks, d.Down())
		}
	}
	d := New(1)
	d.Break(2)
	wantErr(t, "Write", d.Write(0, noughts), api.OK)
	d.Break(2)
	wantErr(t, "Write", d.Write(0, noughts), api.OK)
	wantErr(t, "Write", d.Write(0, noughts), api.OK)
	wantErr(t, "Write", d.Write(0, noughts), api.ErrDown)
}

func TestNoBreakStandsBehindACrash(t *testing.T) {
	d := New(1)
	d.Break(0)
	d.Crash(nil, 0, 0)
	wantErr(t, "Write", d.Write(0, full("a")), api.OK)
	d.Break(0)
	wantErr(t, "Write", d.Write(0, full("b")), api.ErrDown)
	d.Break(-1)
	if !d.Down() {
		t.Error("Break(-1) brought the power back")
	}
	d.Break(0)
	d.Crash(nil, 0, 0)
	wantErr(t, "Write", d.Write(0, full("c")), api.OK)
	wantErr(t, "Write", d.Write(0, full("d")), api.OK)
	if d.Pending() != 2 || d.Down() {
		t.Errorf("%d pending, down %v", d.Pending(), d.Down())
	}
	d.Break(1)
	wantErr(t, "Write", d.Write(0, full("e")), api.OK)
	wantErr(t, "Write", d.Write(0, full("f")), api.ErrDown)
	d.Crash(nil, 0, 0)
	wantErr(t, "Write: the Break is over", d.Write(0, full("g")), api.OK)
}

func TestCrashKeeps(t *testing.T) {
	for _, c := range []struct {
		keep []int
		want [3]string
	}{
		{nil, [3]string{noughts, noughts, noughts}},
		{[]int{}, [3]string{noughts, noughts, noughts}},
		{[]int{-1, 3, math.MinInt, math.MaxInt, 1 << 32}, [3]string{noughts, noughts, noughts}},
		{[]int{0}, [3]string{full("a"), noughts, noughts}},
		{[]int{1}, [3]string{full("b"), noughts, noughts}},
		{[]int{2}, [3]string{noughts, full("c"), noughts}},
		{[]int{1, 0}, [3]string{full("b"), noughts, noughts}},
		{[]int{0, 1, 0}, [3]string{full("b"), noughts, noughts}},
		{[]int{2, 2, 0, 9, 0}, [3]string{full("a"), full("c"), noughts}},
		{[]int{2, 1, 0}, [3]string{full("b"), full("c"), noughts}},
	} {
		for _, torn := range []int{-1, 3, math.MinInt, math.MaxInt} {
			d := write3(t)
			given := slices.Clone(c.keep)
			d.Crash(c.keep, torn, 5)
			if !slices.Equal(given, c.keep) {
				t.Errorf("Crash changed %v to %v", given, c.keep)
			}
			for i, s := range c.want {
				wantSure(t, d, i, s)
				wantRead(t, d, i, s)
			}
			if d.Pending() != 0 || d.Down() || d.Writes() != 3 {
				t.Errorf("%d pending, down %v, %d writes", d.Pending(), d.Down(), d.Writes())
			}
		}
	}
}

func TestCrashTears(t *testing.T) {
	for _, c := range []struct{ cut, bytes int }{
		{math.MinInt, 0}, {-1, 0}, {0, 0}, {1, 1}, {3, 3}, {128, 128}, {255, 255}, {256, 256}, {257, 256}, {1 << 32, 256}, {math.MaxInt, 256},
	} {
		d := write3(t)
		d.Crash([]int{0, 1}, 1, c.cut)
		wantRead(t, d, 0, strings.Repeat("b", c.bytes)+full("a")[c.bytes:])
		wantSure(t, d, 1, noughts)

		d = write3(t)
		d.Crash([]int{1}, 1, c.cut)
		wantRead(t, d, 0, strings.Repeat("b", c.bytes)+noughts[c.bytes:])

		d = write3(t)
		d.Crash([]int{0, 1}, 0, c.cut)
		wantRead(t, d, 0, full("b"))

		d = write3(t)
		d.Sync()
		d.Write(0, full("d"))
		d.Crash([]int{0}, 0, c.cut)
		wantRead(t, d, 0, strings.Repeat("d", c.bytes)+full("b")[c.bytes:])
		wantRead(t, d, 1, full("c"))

		d = write3(t)
		d.Crash([]int{2}, 1, c.cut)
		wantRead(t, d, 0, noughts)
		wantRead(t, d, 1, full("c"))
	}
}

func TestSyncedIsThereBehindAnyCrash(t *testing.T) {
	d := write3(t)
	wantErr(t, "Sync", d.Sync(), api.OK)
	d.Crash(nil, 0, 0)
	d.Crash([]int{0, 1, 2}, 0, 1)
	d.Write(2, full("z"))
	d.Crash(nil, 0, 0)
	for i, s := range []string{full("b"), full("c"), noughts} {
		wantRead(t, d, i, s)
		wantSure(t, d, i, s)
	}
	d.Write(1, full("e"))
	d.Crash([]int{0}, 1, 0)
	wantErr(t, "Sync", d.Sync(), api.OK)
	wantSure(t, d, 1, full("e"))
}

func TestNumbersBeginAnewBehindSyncAndCrash(t *testing.T) {
	d := write3(t)
	d.Sync()
	d.Write(2, full("d"))
	d.Write(1, full("e"))
	d.Crash([]int{0}, -1, 0)
	wantSure(t, d, 1, full("c"))
	wantSure(t, d, 2, full("d"))
	d.Write(0, full("f"))
	d.Write(0, full("g"))
	d.Crash([]int{1}, -1, 0)
	wantSure(t, d, 0, full("g"))
}

func TestCounts(t *testing.T) {
	d := New(2)
	d.Read(0)
	d.Read(1)
	d.Read(2)
	d.Read(-1)
	d.Sure(0)
	d.Write(0, noughts)
	d.Write(2, noughts)
	d.Write(0, "")
	d.Sync()
	d.Break(1)
	d.Write(0, noughts)
	d.Write(0, noughts)
	d.Write(0, noughts)
	d.Read(0)
	if d.Reads() != 2 || d.Writes() != 3 {
		t.Errorf("%d reads, %d writes", d.Reads(), d.Writes())
	}
	d.Crash([]int{0, 1}, 0, 0)
	d.Read(0)
	d.Write(1, noughts)
	if d.Reads() != 3 || d.Writes() != 4 {
		t.Errorf("behind the crash: %d reads, %d writes", d.Reads(), d.Writes())
	}
}

func TestReadsAtTheSameTimeAreAllCounted(t *testing.T) {
	d := write3(t)
	var all sync.WaitGroup
	for range 8 {
		all.Go(func() {
			for k := range 1000 {
				d.Read(k % 3)
			}
		})
	}
	all.Wait()
	if d.Reads() != 8000 {
		t.Errorf("Reads = %d", d.Reads())
	}
}

func TestWithoutSectors(t *testing.T) {
	for name, d := range map[string]*Disk{"nil": nil, "zero": {}, "New(0)": New(0)} {
		d.Break(0)
		for _, i := range []int{-1, 0, 1} {
			s, err := d.Read(i)
			if s != "" || d.Sure(i) != "" {
				t.Errorf("%s: Read %q, Sure %q", name, s, d.Sure(i))
			}
			wantErr(t, name+": Read", err, api.ErrRange)
			wantErr(t, name+": Write", d.Write(i, noughts), api.ErrRange)
			wantErr(t, name+": Write", d.Write(i, ""), api.ErrRange)
		}
		wantErr(t, name+": Sync", d.Sync(), api.OK)
		d.Crash([]int{0, 1}, 0, 1)
		if d.Sectors() != 0 || d.Pending() != 0 || d.Down() || d.Reads() != 0 || d.Writes() != 0 {
			t.Errorf("%s: %d sectors, %d pending, down %v, %d reads, %d writes", name, d.Sectors(), d.Pending(), d.Down(), d.Reads(), d.Writes())
		}
	}
}

func TestDisksKnowNothingOfEachOther(t *testing.T) {
	a, b := New(2), New(2)
	a.Write(0, full("a"))
	a.Break(0)
	a.Write(1, full("a"))
	wantRead(t, b, 0, noughts)
	if b.Down() || b.Pending() != 0 || b.Writes() != 0 || a.Reads() != 0 {
		t.Errorf("down %v, %d pending, %d writes", b.Down(), b.Pending(), b.Writes())
	}
	wantErr(t, "Write", b.Write(0, full("b")), api.OK)
	wantErr(t, "Sync", b.Sync(), api.OK)
	wantSure(t, a, 0, noughts)
	wantSure(t, b, 0, full("b"))
}
