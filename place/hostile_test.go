package place

import (
	"math"
	"math/rand"
	"slices"
	"testing"

	"credenza/api"
)

// memory is a second telling: of each of its few bytes, whether it is free.
type memory [192]bool

// told is the memory that a list of ranges tells; of a list that may not be asked about none is free.
func told(l []api.Range) (m memory) {
	if len(l) > 32 {
		return memory{}
	}
	for _, a := range l {
		if a.From < 0 || a.To < a.From || a.To > top {
			return memory{}
		}
		for i := a.From; i < a.To; i++ {
			m[i] = true
		}
	}
	return m
}

// ranges are the bytes that are free, run by run.
func (m memory) ranges() []api.Range {
	var l []api.Range
	for i, free := range m {
		if free && (i == 0 || !m[i-1]) {
			l = append(l, api.Range{From: i})
		}
		if free {
			l[len(l)-1].To = i + 1
		}
	}
	return l
}

// find tries place behind place, and holds each byte against the memory; of one that 32 ranges do not tell it finds none.
func (m memory) find(size int) (int, bool) {
	if len(m.ranges()) > 32 {
		return 0, false
	}
	for at := 0; size >= 0 && at+max(size, 1) <= len(m); at += 16 {
		if !slices.Contains(m[at:at+max(size, 1)], false) {
			return at, true
		}
	}
	return 0, false
}

// all places and takes byte by byte.
func (m memory) all(sizes []int) ([]int, bool) {
	var places []int
	for _, size := range sizes {
		at, ok := m.find(size)
		if !ok || len(sizes) > 16 {
			return nil, false
		}
		places = append(places, at)
		m.take(at, size)
	}
	return places, true
}

// take makes size bytes from at on not free, and those up to the next multiple of 16.
func (m *memory) take(at, size int) {
	for i := at; i < at+max(size, 1) || i%16 != 0; i++ {
		m[i] = false
	}
}

// few makes a list of ranges in a memory; one in some has a range that is wrong.
func few(r *rand.Rand) []api.Range {
	l := make([]api.Range, r.Intn(6))
	if r.Intn(10) == 0 {
		l = make([]api.Range, 28+r.Intn(7))
	}
	for i := range l {
		a, long := r.Intn(len(memory{})+1), r.Intn(1+[]int{3, 20, 100}[r.Intn(3)])
		l[i] = api.Range{From: a, To: min(a+long, len(memory{}))}
		if r.Intn(100) == 0 {
			l[i].From, l[i].To = l[i].To, l[i].From
		}
		if r.Intn(200) == 0 {
			l[i].From--
		}
	}
	return l
}

// TestBytes holds every call against the second telling.
func TestBytes(t *testing.T) { // 18.1, 18.2, W1
	r := rand.New(rand.NewSource(22))
	times := map[string]int{}
	for range 60000 {
		free := few(r)
		m := told(free)
		if got := Clean(free); !slices.Equal(got, m.ranges()) {
			t.Fatal(free, got)
		}
		size := r.Intn(40) - 2
		at, ok := Find(free, size)
		if want, found := m.find(size); at != want || ok != found {
			t.Fatal(free, size, at, ok)
		}
		sizes := make([]int, r.Intn(6))
		if r.Intn(10) == 0 {
			sizes = make([]int, 14+r.Intn(4))
		}
		for i := range sizes {
			sizes[i] = r.Intn(1 + []int{2, 18, 60}[r.Intn(3)])
		}
		places, ok := All(free, sizes)
		if want, found := m.all(sizes); !slices.Equal(places, want) || ok != found {
			t.Fatal(free, sizes, places, ok)
		}
		times[map[bool]string{false: "none", true: "found"}[ok]]++
		x := api.Range{From: r.Intn(220) - 10, To: r.Intn(220) - 10}
		got := Take(free, x)
		for i := max(x.From, 0); i < min(x.To, len(m)); i++ {
			m[i] = false
		}
		if !slices.Equal(got, m.ranges()) {
			t.Fatal(free, x, got)
		}
	}
	if times["none"] < 1000 || times["found"] < 1000 {
		t.Error("few of a kind were met:", times)
	}
}

// TestLies takes every range of a small memory from every two ranges of it, so that any two lie in each way.
func TestLies(t *testing.T) { // 18.1
	const n = 6
	var l []api.Range
	for from := -1; from <= n; from++ {
		for to := -1; to <= n; to++ {
			l = append(l, api.Range{From: from, To: to})
		}
	}
	for _, a := range l {
		for _, b := range l {
			free := []api.Range{a, b}
			if got := Clean(free); !slices.Equal(got, told(free).ranges()) {
				t.Fatal(free, got)
			}
			for _, x := range l {
				m := told(free)
				for i := max(x.From, 0); i < x.To; i++ {
					m[i] = false
				}
				if got := Take(free, x); !slices.Equal(got, m.ranges()) {
					t.Fatal(free, x, got)
				}
			}
		}
	}
}

// number is any number, one at an edge more likely.
func number(r *rand.Rand) int {
	edges := []int{math.MinInt, math.MinInt + 1, -17, -16, -1, 0, 1, 15, 16, 17, top / 2, top - 17, top - 16, top - 15, top - 1, top, top + 1, math.MaxInt - 15, math.MaxInt}
	if r.Intn(3) == 0 {
		return edges[r.Intn(len(edges))]
	}
	return r.Intn(top + 1)
}

// has says whether a byte is in one of l's ranges.
func has(l []api.Range, at int) bool {
	return slices.ContainsFunc(l, func(a api.Range) bool { return a.From <= at && at < a.To })
}

// inOrder says whether ranges rise, none empty, and none touch.
func inOrder(l []api.Range) bool {
	for i, a := range l {
		if a.From >= a.To || i > 0 && l[i-1].To >= a.From {
			return false
		}
	}
	return true
}

// edges are the bytes at which something may change, and those ahead of and behind them.
func edges(lists ...[]api.Range) []int {
	var l []int
	for _, a := range slices.Concat(lists...) {
		for _, n := range []int{a.From, a.To} {
			l = append(l, n, max(n, math.MinInt+1)-1, min(n, math.MaxInt-1)+1)
		}
	}
	return l
}

// raw makes a list of ranges of any numbers; one whose ranges are all right is as likely as another one.
func raw(r *rand.Rand) []api.Range {
	l := make([]api.Range, r.Intn(8))
	right := r.Intn(2) == 0
	for i := range l {
		l[i] = api.Range{From: number(r), To: number(r)}
		if right {
			a, b := min(max(l[i].From, 0), top), min(max(l[i].To, 0), top)
			l[i] = api.Range{From: min(a, b), To: max(a, b)}
		}
	}
	return l
}

// TestHostile asks with any numbers, and holds the answers against the bytes at the edges.
func TestHostile(t *testing.T) { // 18.1, 18.2, 18.3, W9
	r := rand.New(rand.NewSource(23))
	ok, found := 0, 0
	for range 100000 {
		free := raw(r)
		all := free
		if !Ok(free) {
			all = nil
		} else {
			ok++
		}
		clean, x := Clean(free), api.Range{From: number(r), To: number(r)}
		left := Take(free, x)
		if !inOrder(clean) || !inOrder(left) {
			t.Fatal(free, x, clean, left)
		}
		for _, at := range edges(free, []api.Range{x}, clean, left) {
			if has(clean, at) != has(all, at) || has(left, at) != (has(all, at) && !has([]api.Range{x}, at)) {
				t.Fatal(free, x, clean, left, at)
			}
		}
		size := number(r)
		at, is := Find(free, size)
		holdFind(t, clean, size, at, is)
		sizes := make([]int, r.Intn(5))
		for i := range sizes {
			sizes[i] = number(r) >> r.Intn(24)
		}
		places, is := All(free, sizes)
		holdAll(t, clean, sizes, places, is)
		if is {
			found++
		}
	}
	if ok < 10000 || found < 10000 {
		t.Error("few of a kind were met:", ok, found)
	}
}

// holdFind holds what was found against each range: the least place in it lies at its first multiple of 16.
func holdFind(t *testing.T, clean []api.Range, size, at int, ok bool) {
	t.Helper()
	for _, a := range clean {
		first := (a.From + 15) &^ 15
		if size < 0 || size > top || first+max(size, 1) > a.To {
			continue
		}
		if !ok || at != first {
			t.Fatal(clean, size, at, ok)
		}
		return
	}
	if ok || at != 0 {
		t.Fatal(clean, size, at, ok)
	}
}

// holdAll holds that what was placed lies in what was free, each at a multiple of 16, and that no two share a byte.
func holdAll(t *testing.T, clean []api.Range, sizes, places []int, ok bool) {
	t.Helper()
	if !ok {
		if len(places) != 0 {
			t.Fatal(clean, sizes, places)
		}
		return
	}
	if len(places) != len(sizes) {
		t.Fatal(clean, sizes, places)
	}
	for i, at := range places {
		long := max(sizes[i], 1)
		if sizes[i] < 0 || at%16 != 0 || !slices.ContainsFunc(clean, func(a api.Range) bool { return a.From <= at && at+long <= a.To }) {
			t.Fatal(clean, sizes, places)
		}
		for j, other := range places[:i] {
			if other < at+long && at < other+max(sizes[j], 1) {
				t.Fatal(clean, sizes, places)
			}
		}
	}
}

// full makes 32 ranges, of which none touch: one of some length, and short ones ahead of it and behind it.
func full(r *rand.Rand) []api.Range {
	var l []api.Range
	from, far := r.Intn(3), r.Intn(32)
	for i := range 32 {
		long := 1 + r.Intn(3)
		if i == far {
			long = 20 + r.Intn(45)
		}
		l = append(l, api.Range{From: from, To: from + long})
		from += long + 1
	}
	return l
}

// steps is All by its own words: of each size Find, in what Take leaves when those ahead are taken.
func steps(free []api.Range, sizes []int) ([]int, bool) {
	var places []int
	for _, size := range sizes {
		at, ok := Find(free, size)
		if !ok || len(sizes) > 16 {
			return nil, false
		}
		places = append(places, at)
		free = Take(free, api.Range{From: at, To: (at + max(size, 1) + 15) &^ 15})
	}
	return places, true
}

// TestSteps holds All against Find and Take, one behind the other.
func TestSteps(t *testing.T) { // 18.1
	r := rand.New(rand.NewSource(25))
	for range 60000 {
		free := raw(r)
		switch r.Intn(4) {
		case 0:
			free = few(r)
		case 1:
			free = full(r)
		}
		sizes := make([]int, r.Intn(6))
		for i := range sizes {
			sizes[i] = r.Intn(50) - 1
			if r.Intn(4) == 0 {
				sizes[i] = number(r)
			}
		}
		want, found := steps(free, sizes)
		if at, ok := All(free, sizes); !slices.Equal(at, want) || ok != found {
			t.Fatal(free, sizes, at, ok)
		}
	}
}

// TestFull places in 32 ranges, one of which may be parted again and again.
func TestFull(t *testing.T) { // 18.1, 18.2
	r := rand.New(rand.NewSource(24))
	parted, none, most := 0, 0, 0
	for range 20000 {
		free := full(r)
		if !Ok(free) || !slices.Equal(Clean(free), free) {
			t.Fatal(free)
		}
		sizes := make([]int, 1+r.Intn(4))
		for i := range sizes {
			sizes[i] = r.Intn(12)
		}
		m := told(free)
		r.Shuffle(len(free), func(i, j int) { free[i], free[j] = free[j], free[i] })
		places, ok := All(free, sizes)
		want, found := m.all(sizes)
		if !slices.Equal(places, want) || ok != found {
			t.Fatal(free, sizes, places, ok)
		}
		left := told(free)
		for i, size := range sizes {
			if n := len(left.ranges()); n > 32 {
				parted++ // from here on nothing is found
				break
			} else if i > 0 && n == 32 {
				most++
			}
			at, ok := left.find(size)
			if !ok {
				none++
				break
			}
			left.take(at, size)
		}
	}
	if parted < 1000 || none < 1000 || most < 1000 {
		t.Error("few of a kind were met:", parted, none, most)
	}
}
