package runs

import (
	"math"
	"math/rand"
	"slices"
	"testing"

	"rootstock/api"
)

const (
	low  = math.MinInt
	high = math.MaxInt
)

// list is runs by their ends: From, To, From, To ..
func list(n ...int) []api.Run {
	var l []api.Run
	for i := 0; i+1 < len(n); i += 2 {
		l = append(l, api.Run{From: n[i], To: n[i+1]})
	}
	return l
}

func TestMost(t *testing.T) {
	if Most != 4294967295 {
		t.Errorf("Most = %d", Most)
	}
}

func TestNorm(t *testing.T) {
	for _, c := range []struct{ give, want []api.Run }{
		{nil, nil},
		{list(5, 7, 1, 2, 3, 3), list(1, 3, 5, 7)},
		{list(4, 4), list(4, 4)},
		{list(4, 3), nil},
		{list(4, 3, 4, 4, 4, low), list(4, 4)},
		{list(1, 2, 3, 4), list(1, 4)},
		{list(1, 2, 4, 5), list(1, 2, 4, 5)},
		{list(4, 5, 1, 2, 3, 3), list(1, 5)},
		{list(1, 9, 3, 4), list(1, 9)},
		{list(1, 9, 3, 4, 6, 12), list(1, 12)},
		{list(1, 9, 1, 9, 1, 9), list(1, 9)},
		{list(1, 3, 1, 9, 1, 5), list(1, 9)},
		{list(-9, -1), nil},
		{list(-9, 0), list(0, 0)},
		{list(-9, -1, 1, 1), list(1, 1)},
		{list(Most, Most), list(Most, Most)},
		{list(Most+1, high), nil},
		{list(Most-1, Most+1), list(Most-1, Most)},
		{list(Most+1, Most+1, Most, Most), list(Most, Most)},
		{list(low, high), list(0, Most)},
		{list(high, low), nil},
		{list(low, low, high, high), nil},
		{list(5, high, low, 3), list(0, 3, 5, Most)},
		{list(5, high, low, 4), list(0, Most)},
		{list(0, high-1, high, high), list(0, Most)},
		{list(7, 5, 6, 6), list(6, 6)},
	} {
		if got := Norm(c.give...); !slices.Equal(got, c.want) {
			t.Errorf("Norm(%v) = %v, want %v", c.give, got, c.want)
		}
	}
	if got := Norm(); len(got) != 0 {
		t.Errorf("Norm() = %v", got)
	}
	one, two := api.Run{From: 5, To: 6}, api.Run{From: 1, To: 4}
	if got := Norm(one, two); !slices.Equal(got, list(1, 6)) {
		t.Errorf("one by one: %v", got)
	}
}

func TestHas(t *testing.T) {
	l := list(8, 9, 3, 1, 1, 2, 2, 4)
	for n := -1; n < 12; n++ {
		if got, want := Has(l, n), n >= 1 && n <= 4 || n == 8 || n == 9; got != want {
			t.Errorf("Has(%v, %d) = %v", l, n, got)
		}
	}
	all := list(low, high)
	for n, want := range map[int]bool{low: false, -1: false, 0: true, 7: true, Most: true, Most + 1: false, high: false} {
		if got := Has(all, n); got != want {
			t.Errorf("Has(%v, %d) = %v", all, n, got)
		}
		if Has(nil, n) || Has(list(high, low), n) {
			t.Errorf("%d is in a set without numbers", n)
		}
	}
}

func TestCountAndFirst(t *testing.T) {
	for _, c := range []struct {
		l            []api.Run
		count, first int
	}{
		{nil, 0, 0},
		{list(9, 8), 0, 0},
		{list(-9, -1), 0, 0},
		{list(Most+1, high), 0, 0},
		{list(0, 0), 1, 0},
		{list(-9, 0), 1, 0},
		{list(8, 9, 1, 2), 4, 1},
		{list(8, 9, 8, 9, 7, 8), 3, 7},
		{list(5, 4, 6, 6), 1, 6},
		{list(Most, high), 1, Most},
		{list(low, high), 4294967296, 0},
		{list(low, high, low, high, 5, 6), 4294967296, 0},
		{list(1, high), 4294967295, 1},
	} {
		if got := Count(c.l); got != c.count {
			t.Errorf("Count(%v) = %d, want %d", c.l, got, c.count)
		}
		if n, ok := First(c.l); n != c.first || ok != (c.count > 0) {
			t.Errorf("First(%v) = %d, %v, want %d", c.l, n, ok, c.first)
		}
	}
}

func TestOfTwo(t *testing.T) {
	for _, c := range []struct{ a, b, union, minus, meet []api.Run }{
		{nil, nil, nil, nil, nil},
		{list(3, 4, 1, 1), nil, list(1, 1, 3, 4), list(1, 1, 3, 4), nil},
		{nil, list(3, 4, 1, 1), list(1, 1, 3, 4), nil, nil},
		{list(1, 9), list(3, 4, 9, 12), list(1, 12), list(1, 2, 5, 8), list(3, 4, 9, 9)},
		{list(3, 4, 9, 12), list(1, 9), list(1, 12), list(10, 12), list(3, 4, 9, 9)},
		{list(1, 2), list(4, 5), list(1, 2, 4, 5), list(1, 2), nil},
		{list(1, 2), list(3, 5), list(1, 5), list(1, 2), nil},
		{list(1, 5, 8, 9), list(4, 8), list(1, 9), list(1, 3, 9, 9), list(4, 5, 8, 8)},
		{list(1, 5), list(1, 5), list(1, 5), nil, list(1, 5)},
		{list(1, 5), list(2, 4), list(1, 5), list(1, 1, 5, 5), list(2, 4)},
		{list(2, 4), list(1, 5), list(1, 5), nil, list(2, 4)},
		{list(1, 3, 4, 6), list(3, 3, 4, 4), list(1, 6), list(1, 2, 5, 6), list(3, 4)},
		{list(low, high), list(5, 5), list(0, Most), list(0, 4, 6, Most), list(5, 5)},
		{list(low, high), list(low, 0, Most, high), list(0, Most), list(1, Most-1), list(0, 0, Most, Most)},
		{list(low, high), list(low, high), list(0, Most), nil, list(0, Most)},
		{list(1, 9), list(low, high), list(0, Most), nil, list(1, 9)},
		{list(5, 1), list(-3, -1), nil, nil, nil},
		{list(Most, Most), list(0, 0), list(0, 0, Most, Most), list(Most, Most), nil},
		{list(0, 2, 4, 6), list(3, 3), list(0, 6), list(0, 2, 4, 6), nil},
	} {
		if got := Union(c.a, c.b); !slices.Equal(got, c.union) {
			t.Errorf("Union(%v, %v) = %v, want %v", c.a, c.b, got, c.union)
		}
		if got := Minus(c.a, c.b); !slices.Equal(got, c.minus) {
			t.Errorf("Minus(%v, %v) = %v, want %v", c.a, c.b, got, c.minus)
		}
		if got := Meet(c.a, c.b); !slices.Equal(got, c.meet) {
			t.Errorf("Meet(%v, %v) = %v, want %v", c.a, c.b, got, c.meet)
		}
	}
}

func TestAddAndRemove(t *testing.T) {
	for _, c := range []struct {
		l           []api.Run
		n           int
		with, other []api.Run
	}{
		{nil, 0, list(0, 0), nil},
		{nil, Most, list(Most, Most), nil},
		{nil, -1, nil, nil},
		{nil, Most + 1, nil, nil},
		{list(1, 3), 2, list(1, 3), list(1, 1, 3, 3)},
		{list(1, 3), 1, list(1, 3), list(2, 3)},
		{list(1, 3), 3, list(1, 3), list(1, 2)},
		{list(1, 3), 0, list(0, 3), list(1, 3)},
		{list(1, 3), 4, list(1, 4), list(1, 3)},
		{list(1, 3), 5, list(1, 3, 5, 5), list(1, 3)},
		{list(1, 2, 4, 5), 3, list(1, 5), list(1, 2, 4, 5)},
		{list(7, 7), 7, list(7, 7), nil},
		{list(7, 7, 7, 7), 7, list(7, 7), nil},
		{list(4, 5, 1, 2, 3, 0), 9, list(1, 2, 4, 5, 9, 9), list(1, 2, 4, 5)},
		{list(4, 5, 1, 2, 3, 0), -1, list(1, 2, 4, 5), list(1, 2, 4, 5)},
		{list(4, 5, 3, 3, -2, -1), Most + 1, list(3, 5), list(3, 5)},
		{list(low, high), low, list(0, Most), list(0, Most)},
		{list(low, high), high, list(0, Most), list(0, Most)},
		{list(low, high), 0, list(0, Most), list(1, Most)},
		{list(low, high), Most, list(0, Most), list(0, Most-1)},
		{list(low, -1), -1, nil, nil},
	} {
		if got := Add(c.l, c.n); !slices.Equal(got, c.with) {
			t.Errorf("Add(%v, %d) = %v, want %v", c.l, c.n, got, c.with)
		}
		if got := Remove(c.l, c.n); !slices.Equal(got, c.other) {
			t.Errorf("Remove(%v, %d) = %v, want %v", c.l, c.n, got, c.other)
		}
	}
}

func TestList(t *testing.T) {
	l := list(8, 9, 1, 2, 2, 2, -5, -1)
	for most, want := range map[int][]int{
		low: nil, -1: nil, 0: nil,
		1: {1}, 2: {1, 2}, 3: {1, 2, 8}, 4: {1, 2, 8, 9}, 5: {1, 2, 8, 9}, high: {1, 2, 8, 9},
	} {
		if got := List(l, most); !slices.Equal(got, want) {
			t.Errorf("List(%v, %d) = %v, want %v", l, most, got, want)
		}
	}
	if got := List(nil, high); len(got) != 0 {
		t.Errorf("of no run: %v", got)
	}
	if got := List(list(low, high), 3); !slices.Equal(got, []int{0, 1, 2}) {
		t.Errorf("of all numbers: %v", got)
	}
	if got := List(list(Most-1, high), 9); !slices.Equal(got, []int{Most - 1, Most}) {
		t.Errorf("of the greatest: %v", got)
	}
}

func TestAll(t *testing.T) {
	all := All(list(8, 9, 1, 2, 2, 3, 7, 5, -4, 0))
	for range 2 {
		var got []int
		for n := range all {
			got = append(got, n)
		}
		if want := []int{0, 1, 2, 3, 8, 9}; !slices.Equal(got, want) {
			t.Errorf("All: %v, want %v", got, want)
		}
	}
	for enough := 1; enough <= 6; enough++ {
		told := 0
		all(func(int) bool {
			told++
			return told < enough
		})
		if told != enough {
			t.Errorf("%d were enough, %d were told", enough, told)
		}
	}
	for n := range All(nil) {
		t.Errorf("of no run: %d", n)
	}
	told := 0
	for n := range All(list(low, high)) {
		if n != told {
			t.Fatalf("of all numbers: %d, want %d", n, told)
		}
		if told++; told > 1000 {
			break
		}
	}
	for n := range All(list(Most, high)) {
		if n != Most {
			t.Errorf("of the greatest: %d", n)
		}
	}
	all(nil)
	All(nil)(nil)
}

// Two who go through one set at once do not disturb one another.
func TestAllInItself(t *testing.T) {
	all := All(list(1, 2, 5, 5))
	var got []int
	for a := range all {
		for b := range all {
			got = append(got, 10*a+b)
		}
	}
	if want := []int{11, 12, 15, 21, 22, 25, 51, 52, 55}; !slices.Equal(got, want) {
		t.Errorf("%v, want %v", got, want)
	}
}

// in is the chapter's sentence on which numbers a list stands for, in plain words.
func in(l []api.Run, n int) bool {
	for _, r := range l {
		if r.From <= n && n <= r.To && n >= 0 && n <= 4294967295 {
			return true
		}
	}
	return false
}

// points are numbers of which one at least is of each stretch that lies in all of a list's runs alike, or in none.
func points(lists ...[]api.Run) []int {
	p := []int{low, -1, 0, 1, Most - 1, Most, Most + 1, high}
	for _, l := range lists {
		for _, r := range l {
			for _, n := range []int{r.From, r.To} {
				p = append(p, n, max(n, low+1)-1, min(n, high-1)+1)
			}
		}
	}
	return p
}

func isWritten(l []api.Run) bool {
	for i, r := range l {
		if r.From < 0 || r.To > 4294967295 || r.From > r.To || i > 0 && r.From <= l[i-1].To+1 {
			return false
		}
	}
	return true
}

func checkSet(t *testing.T, what string, got, a, b []api.Run, n int, want func(p int) bool) {
	t.Helper()
	if !isWritten(got) {
		t.Fatalf("%s of %v, %v, %d = %v: not in the one way", what, a, b, n, got)
	}
	for _, p := range append(points(a, b, got), n, max(n, low+1)-1, min(n, high-1)+1) {
		if in(got, p) != want(p) {
			t.Fatalf("%s of %v, %v, %d = %v: wrong at %d", what, a, b, n, got, p)
		}
	}
}

func checkSets(t *testing.T, a, b []api.Run, n int) {
	t.Helper()
	norm := Norm(a...)
	checkSet(t, "Norm", norm, a, b, n, func(p int) bool { return in(a, p) })
	checkSet(t, "Union", Union(a, b), a, b, n, func(p int) bool { return in(a, p) || in(b, p) })
	checkSet(t, "Minus", Minus(a, b), a, b, n, func(p int) bool { return in(a, p) && !in(b, p) })
	checkSet(t, "Meet", Meet(a, b), a, b, n, func(p int) bool { return in(a, p) && in(b, p) })
	checkSet(t, "Add", Add(a, n), a, b, n, func(p int) bool { return in(a, p) || p == n && n >= 0 && n <= Most })
	checkSet(t, "Remove", Remove(a, n), a, b, n, func(p int) bool { return in(a, p) && p != n })
	for _, p := range append(points(a), n) {
		if Has(a, p) != in(a, p) {
			t.Fatalf("Has(%v, %d) = %v", a, p, Has(a, p))
		}
	}
	// norm was found to be the set, in the one way: what it tells is counted by hand.
	count := 0
	var least []int
	for _, r := range norm {
		count += r.To - r.From + 1
		for m := r.From; m <= r.To && len(least) < 20; m++ {
			least = append(least, m)
		}
	}
	if got := Count(a); got != count {
		t.Fatalf("Count(%v) = %d, want %d", a, got, count)
	}
	if got := List(a, 20); !slices.Equal(got, least) {
		t.Fatalf("List(%v, 20) = %v, want %v", a, got, least)
	}
	m, ok := First(a)
	if ok != (count > 0) || ok && m != least[0] || !ok && m != 0 {
		t.Fatalf("First(%v) = %d, %v", a, m, ok)
	}
}

// someNumber is one of few, so that ends meet: near 0, near Most, or beyond all.
func someNumber(r *rand.Rand, kinds int) int {
	switch n := r.Intn(kinds) - 3; r.Intn(9) {
	case 0:
		return Most - n
	case 1:
		return []int{low, low + 1, -Most, Most, 1 << 32, 1 << 40, high - 1, high}[r.Intn(8)]
	default:
		return n
	}
}

func someRuns(r *rand.Rand, most, kinds int) []api.Run {
	l := make([]api.Run, r.Intn(most+1))
	for i := range l {
		from := someNumber(r, kinds)
		to := someNumber(r, kinds)
		if r.Intn(3) > 0 && from < high-9 {
			to = from + r.Intn(4)
		}
		l[i] = api.Run{From: from, To: to}
	}
	return l
}

func TestAgainstPlainSets(t *testing.T) {
	r := rand.New(rand.NewSource(8))
	for i := range 20000 {
		most, kinds := 1+i%12, 6+i%30
		checkSets(t, someRuns(r, most, kinds), someRuns(r, most, kinds), someNumber(r, kinds))
	}
}

// All subsets of a few numbers, each pair of them.
func TestAllSmallSets(t *testing.T) {
	of := func(bits int) []api.Run {
		var l []api.Run
		for n := 5; n >= 0; n-- {
			if bits>>n&1 == 1 {
				l = append(l, api.Run{From: n, To: n})
			}
		}
		return l
	}
	for a := range 64 {
		for b := range 64 {
			for what, got := range map[string][2][]api.Run{
				"Union": {Union(of(a), of(b)), Norm(of(a | b)...)},
				"Minus": {Minus(of(a), of(b)), Norm(of(a &^ b)...)},
				"Meet":  {Meet(of(a), of(b)), Norm(of(a & b)...)},
			} {
				if !slices.Equal(got[0], got[1]) || !isWritten(got[0]) {
					t.Errorf("%s(%v, %v) = %v, want %v", what, of(a), of(b), got[0], got[1])
				}
			}
		}
	}
}

// Two lists that stand for one set are written the same, whatever is done with them.
func TestOneSetIsWrittenTheSame(t *testing.T) {
	r := rand.New(rand.NewSource(88))
	for range 2000 {
		a, b, n := someRuns(r, 6, 12), someRuns(r, 6, 12), someNumber(r, 12)
		other := append(someCut(r, a), list(4, 3, -9, -1, Most+1, high)...)
		r.Shuffle(len(other), func(i, j int) { other[i], other[j] = other[j], other[i] })
		for what, got := range map[string][2][]api.Run{
			"Norm":     {Norm(a...), Norm(other...)},
			"Union":    {Union(a, b), Union(b, other)},
			"Minus":    {Minus(a, b), Minus(other, b)},
			"of Minus": {Minus(b, a), Minus(b, other)},
			"Meet":     {Meet(a, b), Meet(b, other)},
			"Add":      {Add(a, n), Add(other, n)},
			"Remove":   {Remove(a, n), Remove(other, n)},
		} {
			if !slices.Equal(got[0], got[1]) {
				t.Fatalf("%s: %v and %v are one set, the answers %v", what, a, other, got)
			}
		}
	}
}

// someCut is the same set with its runs cut in two somewhere, and some of them twice.
func someCut(r *rand.Rand, l []api.Run) []api.Run {
	var cut []api.Run
	for _, x := range l {
		if x.From >= x.To {
			cut = append(cut, x, x)
			continue
		}
		at := x.From
		if r.Intn(2) == 0 {
			at = x.To - 1
		}
		cut = append(cut, api.Run{From: x.From, To: at}, api.Run{From: at + 1, To: x.To}, api.Run{From: at, To: x.To})
	}
	return cut
}

// spoil changes all that a list's memory holds, up to its capacity.
func spoil[T any](l []T, with T) {
	l = l[:cap(l)]
	for i := range l {
		l[i] = with
	}
}

func answers(a, b []api.Run, n int) [][]api.Run {
	return [][]api.Run{Norm(a...), Union(a, b), Union(b, a), Minus(a, b), Minus(b, a), Meet(a, b), Meet(b, a), Add(a, n), Remove(a, n)}
}

// No list that is handed in is changed, no answer hangs on one, and none on another one.
func TestNothingIsShared(t *testing.T) {
	bad := api.Run{From: 77, To: 99}
	r := rand.New(rand.NewSource(808))
	for i := range 300 {
		a, b, n := someRuns(r, 8, 20), someRuns(r, 8, 20), someNumber(r, 20)
		switch i % 4 {
		case 1:
			a = Norm(a...)
		case 2:
			a, b = Norm(a...), nil
		case 3:
			b = a
		}
		// Room behind the end: what is put there is put into the caller's memory.
		a = append(slices.Grow(a, 9), bad)[:len(a)]
		a0, b0 := slices.Clone(a), slices.Clone(b)
		got, want := answers(a, b, n), answers(a0, b0, n)
		all, least := All(a), List(a0, 20)
		Has(a, n)
		Count(a)
		First(a)
		List(a, 20)
		if !slices.Equal(a, a0) || !slices.Equal(b, b0) || a[:len(a)+1][len(a)] != bad {
			t.Fatalf("an argument was changed: %v %v, were %v %v", a, b, a0, b0)
		}
		spoil(a, bad)
		spoil(b, bad)
		for k := range got {
			if !slices.Equal(got[k], want[k]) {
				t.Fatalf("answer %d shares memory with an argument or an answer: %v, want %v", k, got[k], want[k])
			}
			spoil(got[k], api.Run{From: -9, To: -9})
		}
		if slices.ContainsFunc(a, func(x api.Run) bool { return x != bad }) || slices.ContainsFunc(b, func(x api.Run) bool { return x != bad }) {
			t.Fatal("an argument shares memory with an answer")
		}
		var told []int
		all(func(n int) bool {
			told = append(told, n)
			return len(told) < 20
		})
		if !slices.Equal(told, least) {
			t.Fatalf("All hangs on what became of its list: %v, want %v", told, least)
		}
	}
}

// Great lists take about as many steps as they have runs, but for sorting: a call of so many ends soon.
func TestGreatLists(t *testing.T) {
	const n = 200000
	even, odd := make([]api.Run, n), make([]api.Run, n)
	for i := range n {
		even[i], odd[n-1-i] = api.Run{From: 2 * i, To: 2 * i}, api.Run{From: 2*i + 1, To: 2*i + 1}
	}
	whole := list(0, 2*n-1)
	if got := Union(odd, even); !slices.Equal(got, whole) {
		t.Fatalf("Union: %d runs", len(got))
	}
	if got := Minus(whole, odd); !slices.Equal(got, even) {
		t.Fatalf("Minus: %d runs", len(got))
	}
	if got := Minus(odd, even); !slices.Equal(got, Norm(odd...)) {
		t.Fatalf("Minus of what is apart: %d runs", len(got))
	}
	if got := Meet(odd, even); len(got) != 0 {
		t.Fatalf("Meet: %d runs", len(got))
	}
	if got := Count(odd); got != n {
		t.Fatalf("Count: %d", got)
	}
	if got := List(odd, high); len(got) != n || got[0] != 1 || got[n-1] != 2*n-1 {
		t.Fatalf("List: %d numbers", len(got))
	}
}

// FuzzSets reads runs, and a number, from bytes.
func FuzzSets(f *testing.F) {
	f.Add([]byte{0x12, 0x52, 0x92, 0xd2}, 3)
	f.Add([]byte{0xff, 0x01, 0x80, 0x00}, Most)
	f.Add([]byte{}, -1)
	f.Fuzz(func(t *testing.T, script []byte, n int) {
		var a, b []api.Run
		for len(script) > 1 {
			r := api.Run{From: numberOf(script[0]), To: numberOf(script[1])}
			if script[0]&1 == 0 {
				a = append(a, r)
			} else {
				b = append(b, r)
			}
			script = script[2:]
		}
		checkSets(t, a, b, n)
	})
}

func numberOf(x byte) int {
	switch n := int(x>>1&31) - 4; x >> 6 {
	case 3:
		return Most - n
	case 2:
		return n * (1 << 57)
	default:
		return n
	}
}
