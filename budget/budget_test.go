package budget

import (
	"math"
	"math/big"
	"testing"

	"credenza/api"
)

// odd are numbers at the edges of int, of the limits, and between.
func odd() []int {
	return []int{
		math.MinInt, math.MinInt + 1, math.MinInt / 32, math.MinInt32, -2049, -129, -128, -2, -1,
		0, 1, 2, 7, 8, 9, 31, 32, 33, 119, 120, 121, 127, 128, 129, 255, 256, 257, 1023, 1024, 1025, 1152, 1153, 2047, 2048, 2049,
		3999, 4000, 4001, 4096, 4097, math.MaxInt32, math.MaxInt / 32, math.MaxInt/32 + 1, math.MaxInt - 127, math.MaxInt - 1, math.MaxInt,
	}
}

// TestBlocksEach lays files byte by byte: each 128th begins a block, and the ninth brings one more with it.
func TestBlocksEach(t *testing.T) { // 6.1
	want := 0
	for size := range api.MaxFile + 1 {
		if size%128 == 1 {
			want++
			if want == 9 {
				want++
			}
		}
		if n := Blocks(size); n != want {
			t.Errorf("%d bytes: %d, not %d", size, n, want)
		}
	}
	if want != 33 {
		t.Error(want)
	}
}

func TestBlocksBeyond(t *testing.T) { // 6.1, 6.2
	for _, size := range odd() {
		n := Blocks(size)
		if size < 1 && n != 0 || size >= 4000 && n != 33 {
			t.Error(size, n)
		}
	}
	for size := 4001; size < 10000; size++ {
		if n := Blocks(size); n != 33 {
			t.Error(size, n)
		}
	}
}

func TestExamples(t *testing.T) { // 6.1 and the chapter's example
	for size, want := range map[int]int{0: 0, 1: 1, 128: 1, 129: 2, 1024: 8, 1025: 10, 1152: 10, 1153: 11, 3968: 32, 3969: 33} {
		if n := Blocks(size); n != want {
			t.Errorf("%d bytes: %d, not %d", size, n, want)
		}
	}
}

func TestDir(t *testing.T) { // 6.1
	for n := range 121 {
		want := (n + 3) / 4 // four names a block
		if n > 32 {
			want++
		}
		if k := Dir(n); k != want || k != Blocks(32*n) {
			t.Errorf("%d names: %d, not %d", n, k, want)
		}
	}
	for _, n := range odd() { // 6.2: 32 times such a number may wrap round
		k := Dir(n)
		if n <= 0 && k != 0 || n >= 120 && k != 31 {
			t.Errorf("%d names: %d", n, k)
		}
	}
}

func TestGrow(t *testing.T) { // 6.1
	for _, x := range []struct{ from, to, want int }{
		{0, 0, 0}, {0, 1, 1}, {1, 128, 0}, {128, 129, 1}, {1024, 1025, 2}, {1025, 1024, 0}, {0, 1025, 10}, {1025, 1152, 0},
		{4000, 0, 0}, {4000, 4001, 0}, {3968, 4000, 1}, {3968, math.MaxInt, 1}, {-5, 5, 1}, {5, -5, 0},
		{math.MinInt, math.MaxInt, 33}, {math.MaxInt, math.MinInt, 0}, {math.MinInt, 0, 0}, {math.MaxInt, 4000, 0},
	} {
		if n := Grow(x.from, x.to); n != x.want {
			t.Errorf("from %d to %d: %d, not %d", x.from, x.to, n, x.want)
		}
	}
	l := odd()
	for size := 0; size <= 4100; size += 41 {
		l = append(l, size)
	}
	for _, from := range l {
		for _, to := range l {
			want := Blocks(to) - Blocks(from)
			if want < 0 {
				want = 0
			}
			if n := Grow(from, to); n != want {
				t.Errorf("from %d to %d: %d, not %d", from, to, n, want)
			}
		}
	}
}

func TestLayoutEach(t *testing.T) { // 6.1
	for blocks := 0; blocks < 2200; blocks++ {
		for inodes := -2; inodes < 220; inodes++ {
			maps := 1
			if blocks > 1024 {
				maps = 2
			}
			want := blocks - 96 - inodes - maps
			good := blocks >= 128 && blocks <= 2048 && inodes >= 8 && inodes <= 200 && want >= 8
			if !good {
				want = 0
			}
			if n, ok := Layout(blocks, inodes); n != want || ok != good {
				t.Fatalf("%d blocks, %d inodes: %d %v, not %d %v", blocks, inodes, n, ok, want, good)
			}
		}
	}
}

func TestLayoutEdges(t *testing.T) { // 6.1, and what is beside a false: DOC.md, rule 4
	for _, x := range []struct {
		blocks, inodes, data int
		ok                   bool
	}{
		{128, 8, 23, true}, {127, 8, 0, false}, {128, 7, 0, false}, {128, 23, 8, true}, {128, 24, 0, false},
		{304, 199, 8, true}, {305, 200, 8, true}, {304, 200, 0, false}, {1024, 8, 919, true}, {1025, 8, 919, true}, {1026, 8, 920, true},
		{2048, 8, 1942, true}, {2048, 200, 1750, true}, {2048, 201, 0, false}, {2049, 200, 0, false},
	} {
		if n, ok := Layout(x.blocks, x.inodes); n != x.data || ok != x.ok {
			t.Errorf("%d blocks, %d inodes: %d %v", x.blocks, x.inodes, n, ok)
		}
	}
	for _, blocks := range odd() { // 6.2
		for _, inodes := range odd() {
			n, ok := Layout(blocks, inodes)
			in := blocks >= 128 && blocks <= 2048 && inodes >= 8 && inodes <= 200
			if !in && ok || !ok && n != 0 || ok && (n < 8 || n > blocks-96-inodes-1) {
				t.Errorf("%d blocks, %d inodes: %d %v", blocks, inodes, n, ok)
			}
		}
	}
}

// may is May by numbers that do not wrap round.
func may(free, reserve, need int, all bool) bool {
	if need < 1 {
		return true
	}
	f, n := big.NewInt(int64(free)), big.NewInt(int64(need))
	above := new(big.Int).Sub(f, big.NewInt(int64(reserve)))
	return n.Cmp(f) <= 0 && (all || n.Cmp(above) <= 0)
}

func TestMay(t *testing.T) { // 6.1
	for _, x := range []struct {
		free, reserve, need int
		all, ok             bool
	}{
		{5, 2, 3, false, true}, {5, 2, 4, false, false}, {5, 2, 4, true, true}, {5, 2, 5, true, true}, {5, 2, 6, true, false},
		{0, 0, 0, false, true}, {0, 0, 1, false, false}, {0, 0, 1, true, false}, {0, 9, 0, false, true}, {-5, 9, -1, false, true},
		{5, 5, 1, false, false}, {5, 5, 1, true, true}, {5, 9, 1, false, false}, {5, 9, 1, true, true},
		{5, -3, 5, false, true}, {5, -3, 6, false, false}, {-1, -9, 1, false, false}, {-1, -9, 1, true, false},
		{math.MaxInt, 0, math.MaxInt, false, true}, {math.MaxInt, 1, math.MaxInt, false, false}, {math.MaxInt, 1, math.MaxInt, true, true},
		{math.MaxInt, math.MinInt, math.MaxInt, false, true}, {5, math.MinInt, 5, false, true}, {5, math.MaxInt, 1, false, false},
		{math.MinInt, math.MaxInt, math.MinInt, false, true}, {math.MinInt, math.MaxInt, 1, false, false}, {math.MinInt, math.MinInt, 1, true, false},
	} {
		if ok := May(x.free, x.reserve, x.need, x.all); ok != x.ok {
			t.Errorf("%+v: %v", x, ok)
		}
	}
}

func TestMayEach(t *testing.T) { // 6.1, 6.2
	l := odd()
	for n := -3; n < 20; n++ {
		l = append(l, n)
	}
	for _, free := range l {
		for _, reserve := range l {
			for _, need := range l {
				for _, all := range []bool{false, true} {
					if ok := May(free, reserve, need, all); ok != may(free, reserve, need, all) {
						t.Errorf("%d free, reserve %d, need %d, all %v: %v", free, reserve, need, all, ok)
					}
				}
			}
		}
	}
}

// TestReserve: whatever steps are taken, the ordinary ones leave the reserve, and those that may use all can have it whole.
func TestReserve(t *testing.T) { // W6
	for reserve := range 65 {
		for step := 1; step < 40; step++ {
			free := 100
			for free >= 0 && May(free, reserve, step, false) {
				free -= step
			}
			if free < reserve || free-step >= reserve {
				t.Errorf("reserve %d, steps of %d: %d left", reserve, step, free)
			}
			if !May(free, reserve, reserve, true) || May(free, reserve, free+1, true) {
				t.Errorf("reserve %d is not to be had of %d", reserve, free)
			}
		}
	}
}
