package place

import (
	"math"
	"slices"
	"testing"

	"credenza/api"
)

const top = 1 << 30 // the end of all memory

// ranges are those whose From and To these are, one behind the other.
func ranges(n ...int) []api.Range {
	l := []api.Range{}
	for i := 0; i+1 < len(n); i += 2 {
		l = append(l, api.Range{From: n[i], To: n[i+1]})
	}
	return l
}

// parted are n ranges of long bytes, each far bytes behind the one ahead of it, the first from `from` on.
func parted(n, from, long, far int) []api.Range {
	l := []api.Range{}
	for range n {
		l = append(l, api.Range{From: from, To: from + long})
		from += long + far
	}
	return l
}

func TestExample(t *testing.T) {
	if at, ok := All(ranges(3, 100), []int{20, 4}); !ok || !slices.Equal(at, []int{16, 48}) {
		t.Error(at, ok)
	}
}

func TestOk(t *testing.T) { // 18.1
	for i, l := range [][]api.Range{
		nil, {}, ranges(0, 0), ranges(0, 1), ranges(0, top), ranges(top, top), ranges(top-1, top), ranges(7, 7),
		ranges(5, 9, 1, 3), ranges(1, 9, 1, 9, 2, 3), parted(32, 0, 1, 1), parted(32, 3, 0, 0), slices.Repeat(ranges(0, top), 32),
	} {
		if !Ok(l) {
			t.Error(i, l)
		}
	}
	for i, l := range badLists() {
		if Ok(l) {
			t.Error(i, l)
		}
	}
}

// badLists are lists that are not Ok.
func badLists() [][]api.Range {
	l := [][]api.Range{
		parted(33, 0, 1, 1), parted(33, 3, 0, 0), slices.Repeat(ranges(0, top), 33), parted(40, 0, 1, 0), make([]api.Range, 1<<21),
	}
	for _, bad := range [][]api.Range{
		ranges(-1, 0), ranges(-1, 5), ranges(-16, 64), ranges(math.MinInt, 0), ranges(math.MinInt, math.MaxInt), ranges(-2, -1),
		ranges(0, top+1), ranges(top, top+1), ranges(top+1, top+1), ranges(0, math.MaxInt), ranges(math.MaxInt, math.MaxInt),
		ranges(1, 0), ranges(6, 5), ranges(top, 0), ranges(5, -1), ranges(0, math.MinInt), ranges(math.MaxInt, math.MinInt),
	} {
		// A wrong range alone, and at the head, in the midst, and at the end of what is right.
		l = append(l, bad, slices.Concat(bad, ranges(0, 100)), slices.Concat(ranges(0, 100), bad, ranges(200, 300)),
			slices.Concat(parted(31, 0, 100, 5), bad))
	}
	return l
}

func TestClean(t *testing.T) { // 18.1
	for i, x := range []struct{ l, want []api.Range }{
		{nil, nil},
		{ranges(0, 0), nil},
		{ranges(5, 5, 9, 9), nil},
		{ranges(3, 100), ranges(3, 100)},
		{ranges(0, top), ranges(0, top)},
		{ranges(0, 10, 11, 20), ranges(0, 10, 11, 20)},                 // one byte between
		{ranges(0, 10, 10, 20), ranges(0, 20)},                         // touching
		{ranges(10, 20, 0, 10), ranges(0, 20)},                         // touching, not risen
		{ranges(0, 10, 9, 20), ranges(0, 20)},                          // one byte is of both
		{ranges(0, 30, 10, 20), ranges(0, 30)},                         // within
		{ranges(10, 20, 0, 30), ranges(0, 30)},                         // about
		{ranges(0, 10, 0, 10), ranges(0, 10)},                          // twice
		{ranges(0, 10, 0, 20), ranges(0, 20)},                          // of one beginning
		{ranges(0, 20, 0, 10), ranges(0, 20)},                          //
		{ranges(5, 20, 0, 20), ranges(0, 20)},                          // of one end
		{ranges(0, 10, 10, 10, 20, 30), ranges(0, 10, 20, 30)},         // an empty one at an end
		{ranges(0, 10, 15, 15, 20, 30), ranges(0, 10, 20, 30)},         // between
		{ranges(0, 10, 10, 10, 11, 11, 11, 20), ranges(0, 10, 11, 20)}, // empty ones join nothing
		{ranges(0, 5, 6, 9, 5, 6), ranges(0, 9)},                       // what stands between joins
		{ranges(0, 100, 10, 20, 30, 40, 90, 101), ranges(0, 101)},      // within, then beyond
		{ranges(50, 60, 10, 20, 20, 30, 25, 28, 40, 50), ranges(10, 30, 40, 60)},
		{parted(32, 3, 7, 1), parted(32, 3, 7, 1)},
		{parted(32, 0, 5, 0), ranges(0, 160)},
	} {
		if got := Clean(x.l); !slices.Equal(got, x.want) {
			t.Error(i, got)
		}
		back := slices.Clone(x.l)
		slices.Reverse(back)
		if got := Clean(back); !slices.Equal(got, x.want) {
			t.Error(i, "from its end:", got)
		}
		if got := Clean(x.want); !slices.Equal(got, x.want) {
			t.Error(i, "again:", got)
		}
	}
	for i, l := range badLists() {
		if got := Clean(l); len(got) != 0 {
			t.Error(i, got)
		}
	}
}

func TestFind(t *testing.T) { // 18.1
	for i, x := range []struct {
		free     []api.Range
		size, at int
	}{
		{ranges(3, 100), 20, 16}, {ranges(3, 100), 84, 16}, {ranges(3, 100), 85, -1},
		{ranges(0, 10), 0, 0}, {ranges(0, 10), 1, 0}, {ranges(0, 10), 10, 0}, {ranges(0, 10), 11, -1},
		{ranges(0, 1), 0, 0}, {ranges(16, 16), 0, -1}, {ranges(15, 16), 0, -1}, {ranges(15, 17), 0, 16}, {ranges(1, 16), 1, -1}, {ranges(1, 17), 2, -1},
		{ranges(16, 17), 1, 16}, {ranges(17, 33), 1, 32}, {ranges(17, 32), 1, -1}, {ranges(17, 48), 16, 32}, {ranges(17, 47), 16, -1},
		{ranges(0, 10, 10, 40), 40, 0}, {ranges(10, 40, 0, 10), 40, 0}, // two that touch are one
		{ranges(0, 10, 11, 40), 12, 16}, {ranges(0, 10, 11, 40), 40, -1},
		{ranges(100, 200, 0, 50), 60, 112}, {ranges(100, 200, 0, 50), 50, 0}, {ranges(100, 200, 0, 50), 51, 112}, // the least, whatever is first in the list
		{ranges(0, 10, 16, 30, 32, 64), 20, 32},
		{ranges(0, top), top, 0}, {ranges(0, top), top + 1, -1}, {ranges(0, top), math.MaxInt, -1}, {ranges(1, top), top - 16, 16}, {ranges(1, top), top - 15, -1},
		{ranges(top-16, top), 16, top - 16}, {ranges(top-15, top), 0, -1}, {ranges(top, top), 0, -1},
		{ranges(0, top), -1, -1}, {ranges(0, 5), math.MinInt, -1}, {nil, 0, -1}, {nil, 1, -1}, {nil, -1, -1},
		{parted(32, 1, 15, 1), 1, -1}, {append(parted(31, 1, 15, 1), api.Range{From: 1000, To: 2000}), 5, 1008},
	} {
		want, found := max(x.at, 0), x.at >= 0
		if at, ok := Find(x.free, x.size); at != want || ok != found {
			t.Error(i, at, ok)
		}
	}
	for i, l := range badLists() {
		for _, size := range []int{-1, 0, 1, 16} {
			if at, ok := Find(l, size); at != 0 || ok {
				t.Error(i, at, ok)
			}
		}
	}
}

func TestTake(t *testing.T) { // 18.1
	l := ranges(10, 20, 30, 40)
	for i, x := range []struct {
		from, to int
		want     []api.Range
	}{
		{12, 15, ranges(10, 12, 15, 20, 30, 40)}, {11, 19, ranges(10, 11, 19, 20, 30, 40)}, // within
		{10, 15, ranges(15, 20, 30, 40)}, {5, 15, ranges(15, 20, 30, 40)}, {5, 11, ranges(11, 20, 30, 40)}, // the beginning
		{15, 20, ranges(10, 15, 30, 40)}, {15, 25, ranges(10, 15, 30, 40)}, {19, 30, ranges(10, 19, 30, 40)}, // the end
		{10, 20, ranges(30, 40)}, {9, 20, ranges(30, 40)}, {10, 21, ranges(30, 40)}, {9, 30, ranges(30, 40)}, // all of one
		{15, 35, ranges(10, 15, 35, 40)}, {10, 35, ranges(35, 40)}, {15, 40, ranges(10, 15)}, {10, 40, nil}, {0, 99, nil}, {20, 40, ranges(10, 20)},
		{20, 30, l}, {0, 10, l}, {40, 50, l}, {0, 5, l}, {22, 28, l}, // what is not free
		{15, 15, l}, {10, 10, l}, {20, 20, l}, {15, 14, l}, {15, 3, l}, {99, 0, l}, {0, 0, l}, {math.MaxInt, math.MinInt, l}, // none
		{math.MinInt, math.MaxInt, nil}, {math.MinInt, 11, ranges(11, 20, 30, 40)}, {39, math.MaxInt, ranges(10, 20, 30, 39)},
		{math.MinInt, 10, l}, {40, math.MaxInt, l}, {math.MinInt, math.MinInt + 1, l}, {math.MaxInt - 1, math.MaxInt, l}, {-1, 10, l}, {-9, -1, l},
	} {
		for _, free := range [][]api.Range{l, ranges(30, 40, 10, 20), ranges(35, 40, 10, 15, 30, 36, 50, 50, 15, 20, 17, 19)} {
			if got := Take(free, api.Range{From: x.from, To: x.to}); !slices.Equal(got, x.want) {
				t.Error(i, free, got)
			}
		}
	}
	for i, free := range badLists() {
		for _, r := range ranges(0, 0, 0, 5, 5, 0, math.MinInt, math.MaxInt) {
			if got := Take(free, r); len(got) != 0 {
				t.Error(i, r, got)
			}
		}
	}
}

// TestTakeFromMany parts the last range that fits into a list: what is answered is of one range more.
func TestTakeFromMany(t *testing.T) { // 18.1
	free := parted(32, 0, 100, 1)
	for i := range free {
		want := slices.Concat(free[:i], ranges(free[i].From, free[i].From+40, free[i].From+60, free[i].To), free[i+1:])
		if got := Take(free, api.Range{From: free[i].From + 40, To: free[i].From + 60}); !slices.Equal(got, want) {
			t.Error(i, got)
		}
	}
}

func TestAll(t *testing.T) { // 18.1
	for i, x := range []struct {
		free  []api.Range
		sizes []int
		want  []int
	}{
		{ranges(3, 100), []int{20, 4}, []int{16, 48}},
		{ranges(3, 100), []int{4, 20}, []int{16, 32}},
		{ranges(0, 64), []int{16, 16, 16, 16}, []int{0, 16, 32, 48}},
		{ranges(0, 64), []int{17, 16, 1}, []int{0, 32, 48}},
		{ranges(0, 64), []int{0, 0, 5}, []int{0, 16, 32}},
		{ranges(0, 33), []int{17, 1}, []int{0, 32}},
		{ranges(0, 20), []int{20}, []int{0}},
		{ranges(0, 30, 64, 200), []int{40, 30, 20}, []int{64, 0, 112}}, // a later one goes where an earlier one did not fit
		{ranges(64, 200, 0, 30), []int{40, 30, 20}, []int{64, 0, 112}},
		{ranges(0, 40, 20, 90, 90, 96), []int{50, 17}, []int{0, 64}},
		{ranges(0, 17, 18, 64), []int{17, 1}, []int{0, 32}},  // the bytes up to the next multiple are not all free
		{ranges(0, 17, 31, 64), []int{17, 20}, []int{0, 32}}, //
		{ranges(0, top), []int{top}, []int{0}},
		{ranges(0, top), []int{top - 16, 16}, []int{0, top - 16}},
		{ranges(0, top), []int{top - 31, 1}, []int{0, top - 16}},
		{ranges(0, top), slices.Repeat([]int{top / 16}, 16), []int{0, top / 16, top / 8, 3 * top / 16, top / 4, 5 * top / 16, 3 * top / 8, 7 * top / 16,
			top / 2, 9 * top / 16, 5 * top / 8, 11 * top / 16, 3 * top / 4, 13 * top / 16, 7 * top / 8, 15 * top / 16}},
		{ranges(0, 256), make([]int, 16), []int{0, 16, 32, 48, 64, 80, 96, 112, 128, 144, 160, 176, 192, 208, 224, 240}},
		{ranges(0, 5), nil, nil},
		{nil, nil, nil},
		{nil, []int{}, nil},
	} {
		if at, ok := All(x.free, x.sizes); !ok || !slices.Equal(at, x.want) {
			t.Error(i, at, ok)
		}
	}
	for i, x := range []struct {
		free  []api.Range
		sizes []int
	}{
		{ranges(0, 64), []int{17, 17, 1}}, {ranges(0, 20), []int{20, 1}}, {ranges(0, 32), []int{17, 1}}, {ranges(0, 64), []int{16, 16, 16, 16, 0}},
		{ranges(0, 64), []int{-1}}, {ranges(0, 64), []int{5, -1}}, {ranges(0, 64), []int{-1, 5}}, {ranges(0, 64), []int{math.MinInt}},
		{ranges(0, 64), []int{65, 1}}, {ranges(0, 64), []int{1, 65, 1}}, {ranges(0, 64), []int{1, 65}},
		{ranges(0, top), []int{top, 0}}, {ranges(0, top), []int{top - 15, 1}}, {ranges(0, top), []int{1, math.MaxInt}}, {ranges(0, top), []int{top + 1}},
		{nil, []int{0}}, {ranges(16, 16), []int{0}},
		{ranges(0, top), make([]int, 17)}, {ranges(0, top), make([]int, 1<<21)}, {nil, make([]int, 17)}, {ranges(0, 240), make([]int, 16)},
	} {
		if at, ok := All(x.free, x.sizes); ok || len(at) != 0 {
			t.Error(i, at, ok)
		}
	}
	for i, l := range badLists() {
		if at, ok := All(l, []int{0}); ok || len(at) != 0 {
			t.Error(i, at, ok)
		}
		if at, ok := All(l, nil); !ok || len(at) != 0 { // each of none is found
			t.Error(i, at, ok)
		}
		if at, ok := All(l, make([]int, 17)); ok || len(at) != 0 {
			t.Error(i, at, ok)
		}
	}
}

// TestAllFromMany places in as many ranges as are Ok, or one fewer: when what is placed parts one of them, what is left is
// of one range more, and in 33 ranges nothing is found.
func TestAllFromMany(t *testing.T) { // 18.1
	for i, x := range []struct {
		n     int
		sizes []int
		want  []int // none: false
	}{
		{32, []int{20}, []int{16}}, {32, []int{0}, []int{16}}, // 33 ranges are left, and nobody asks for one in them
		{32, []int{20, 4}, nil}, {32, []int{0, 0}, nil}, {32, []int{20, 20, 20}, nil}, {32, []int{20, 60}, nil},
		{32, []int{77, 4}, []int{16, 112}},                               // nothing is left behind the first: 32 ranges
		{32, []int{65, 77, 4}, []int{16, 112, 208}},                      // as much is taken of 65 bytes
		{32, []int{64}, []int{16}},                                       // of 64 bytes 13 are left behind it
		{32, []int{64, 4}, nil},                                          //
		{32, []int{77, 77, 77, 5}, []int{16, 112, 208, 304}},             // a later one parts its range
		{32, []int{77, 77, 77, 5, 5}, nil},                               //
		{32, slices.Repeat([]int{77}, 16), multiples(16, 96)},            // 32 ranges all along
		{32, append(slices.Repeat([]int{77}, 15), 1), multiples(16, 96)}, // the last of 16 sizes parts the 16th range
		{31, []int{20, 4}, []int{16, 48}},                                // the second begins where the piece behind does
		{31, []int{20, 45, 4}, []int{16, 48, 112}},                       // and leaves nothing behind it
		{31, []int{20, 60}, []int{16, 112}},                              // the second parts another range: 33 are left
		{31, []int{20, 60, 4}, nil},                                      //
		{30, slices.Repeat([]int{60}, 3), []int{16, 112, 208}},           //
		{30, append(slices.Repeat([]int{60}, 3), 1), nil},                //
		{17, slices.Repeat([]int{60}, 16), multiples(16, 96)},            // 33 ranges behind the last
		{18, slices.Repeat([]int{60}, 15), multiples(15, 96)},            // 33 ranges behind the last
		{18, slices.Repeat([]int{60}, 16), nil},                          //
	} {
		at, ok := All(parted(x.n, 3, 90, 6), x.sizes)
		if ok != (x.want != nil) || !slices.Equal(at, x.want) {
			t.Error(i, at, ok)
		}
	}
}

// multiples are n places, the first 16, each far bytes behind the one ahead of it.
func multiples(n, far int) []int {
	var l []int
	for i := range n {
		l = append(l, 16+i*far)
	}
	return l
}

// TestNewMemory writes over what is handed in and what is answered, and over their spare rooms.
func TestNewMemory(t *testing.T) { // 18.1, and rule 3
	spoil := func(l []api.Range) {
		for i := range l[:cap(l)] {
			l[:cap(l)][i] = api.Range{From: -7, To: -9}
		}
	}
	for _, free := range [][]api.Range{ranges(3, 100), ranges(40, 60, 0, 20, 20, 30), parted(32, 0, 90, 10), nil} {
		for _, r := range ranges(0, 0, 5, 2, 10, 12, 0, 15, 16, 99, 0, top) {
			whole := append(slices.Clone(free), ranges(1, 2, 3, 4)...)
			before, in := slices.Clone(whole), whole[:len(free)]
			clean, left, also := Clean(in), Take(in, r), Take(in, r)
			wantClean, wantLeft := slices.Clone(clean), slices.Clone(left)
			sizes := []int{5, 0, 9, 1, 2}
			at, ok := All(in, sizes[:3])
			Find(in, 5)
			Ok(in)
			spoil(also)
			if !slices.Equal(whole, before) || !slices.Equal(left, wantLeft) || !slices.Equal(sizes, []int{5, 0, 9, 1, 2}) {
				t.Errorf("%v without %v: changed", free, r)
			}
			spoil(whole)
			if !slices.Equal(clean, wantClean) || !slices.Equal(left, wantLeft) {
				t.Errorf("%v without %v: kept", free, r)
			}
			want := slices.Clone(at)
			for i := range sizes {
				sizes[i] = -7
			}
			if !slices.Equal(at, want) || ok != (len(at) == 3) {
				t.Error(free, at, ok)
			}
			spoil(clean)
			if !slices.Equal(left, wantLeft) {
				t.Errorf("%v without %v: shared", free, r)
			}
		}
	}
}
