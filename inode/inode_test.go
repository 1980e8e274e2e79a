package inode

import (
	"bytes"
	"errors"
	"math"
	"slices"
	"strconv"
	"testing"

	"credenza/alloc"
	"credenza/api"
	"credenza/budget"
	"credenza/cache"
	"credenza/disk"
	"credenza/fault"
	"credenza/journal"
)

// The disk of the tests: the bits of the Map, the inodes and the blocks for their bytes are the Cache's, the Journal's own blocks stand behind them.
const (
	bits   = 1
	at     = 10
	from   = 300
	own    = 1700
	blocks = 2048
)

// rig is a Table and what it stands on.
type rig struct {
	d *disk.Disk
	c *cache.Cache
	m *alloc.Map
	x *Table
	// how many inodes and blocks there are
	ids, data int
}

// made is a Table of so many inodes and blocks on a disk of noughts, for steps of at most most blocks.
func made(t testing.TB, ids, data, most int) *rig {
	t.Helper()
	d, err := disk.New(blocks)
	if err != nil {
		t.Fatal(err)
	}
	r := &rig{d: d, ids: ids, data: data}
	r.open(t, most)
	return r
}

// open opens all that stands on the disk anew.
func (r *rig) open(t testing.TB, most int) {
	t.Helper()
	j, err := journal.Open(r.d, own, most)
	if err != nil {
		t.Fatal(err)
	}
	if r.c, err = cache.New(j, own); err != nil {
		t.Fatal(err)
	}
	if r.m, err = alloc.New(r.c, bits, from, r.data); err != nil {
		t.Fatal(err)
	}
	if r.x, err = New(r.c, r.m, at, r.ids); err != nil {
		t.Fatal(err)
	}
}

// done looks whether nothing went wrong.
func done(t testing.TB, err error) {
	t.Helper()
	if err != nil {
		t.Fatal(fault.Text(err))
	}
}

// make makes inodes, which must get the next ids from first on.
func (r *rig) make(t testing.TB, first int, kinds ...int) {
	t.Helper()
	for i, kind := range kinds {
		if id, err := r.x.Make(kind); id != first+i || err != nil {
			t.Fatalf("%d, %v, not %d", id, err, first+i)
		}
	}
}

// holds looks whether inode id has just these bytes, by all that can be asked.
func (r *rig) holds(t testing.TB, id int, want []byte) {
	t.Helper()
	if b, err := r.x.Read(id, 0, math.MaxInt); !bytes.Equal(b, want) || err != nil {
		t.Fatalf("%d: %d bytes, not the %d that were written, %v", id, len(b), len(want), err)
	}
	if n, err := r.x.Size(id); n != len(want) || err != nil {
		t.Fatal(id, n, err, len(want))
	}
	l, err := r.x.Blocks(id)
	if err != nil || len(l) != budget.Blocks(len(want)) || !slices.IsSorted(l) {
		t.Fatal(id, l, err)
	}
}

// sound looks whether each block that is taken is had by one inode, and each that is had is taken.
func (r *rig) sound(t testing.TB) {
	t.Helper()
	var had []int
	left := 0
	for id := 1; id <= r.ids; id++ {
		kind, err := r.x.Kind(id)
		done(t, err)
		if kind == 0 {
			left++
			continue
		}
		l, err := r.x.Blocks(id)
		done(t, err)
		size, err := r.x.Size(id)
		if err != nil || len(l) != budget.Blocks(size) {
			t.Fatal(id, size, len(l), err)
		}
		had = append(had, l...)
	}
	slices.Sort(had)
	if l, err := r.m.All(); err != nil || !slices.Equal(l, had) {
		t.Fatalf("taken are %v, had are %v, %v", l, had, err)
	}
	if n, err := r.x.Left(); n != left || err != nil {
		t.Fatal(n, left, err)
	}
}

// image is all that the Cache can tell.
func (r *rig) image(t testing.TB) ([]int, [][]byte) {
	t.Helper()
	var all [][]byte
	for no := range from + r.data {
		b, err := r.c.Read(no)
		done(t, err)
		all = append(all, b)
	}
	return r.c.Changed(), all
}

// same looks whether the Cache tells what it told.
func (r *rig) same(t testing.TB, changed []int, all [][]byte) {
	t.Helper()
	l, now := r.image(t)
	if !slices.Equal(l, changed) {
		t.Fatalf("changed are %v, not %v", l, changed)
	}
	for no := range all {
		if !bytes.Equal(all[no], now[no]) {
			t.Fatal("block", no)
		}
	}
}

// tells looks whether err is just such a text, and a Fault of inode and the name.
func tells(t testing.TB, err error, name, text string) {
	t.Helper()
	f, ok := err.(*api.Fault)
	if !ok || f.Op != "inode" || f.Name != name || fault.Text(err) != text {
		t.Errorf("%s, not %s", fault.Text(err), text)
	}
}

// says looks whether err is a Fault of inode and the id, with that number at its bottom.
func says(t testing.TB, err error, id int, n api.Errno) {
	t.Helper()
	f, ok := err.(*api.Fault)
	if !ok || f.Op != "inode" || f.Name != strconv.Itoa(id) || !errors.Is(err, n) {
		t.Errorf("%s, not error %d", fault.Text(err), n)
	}
}

// some are n bytes, none of them a nought.
func some(seed, n int) []byte {
	b := make([]byte, n)
	for i := range b {
		b[i] = byte(1 + (seed*31+i*7+i/128)%255)
	}
	return b
}

// all looks whether every call about inode id tells such a text, beside zero values: Kind and Size too, if they are to be asked.
func (r *rig) all(t *testing.T, id int, text string, kind, size bool) {
	t.Helper()
	name := strconv.Itoa(id)
	text = "inode " + name + ": " + text
	if kind {
		k, err := r.x.Kind(id)
		if k != 0 {
			t.Error(k)
		}
		tells(t, err, name, text)
	}
	if size {
		n, err := r.x.Size(id)
		if n != 0 {
			t.Error(n)
		}
		tells(t, err, name, text)
	}
	for _, n := range []int{0, 1, math.MaxInt} {
		b, err := r.x.Read(id, n, n)
		if len(b) != 0 {
			t.Error(b)
		}
		tells(t, err, name, text)
	}
	l, err := r.x.Blocks(id)
	if len(l) != 0 {
		t.Error(l)
	}
	tells(t, err, name, text)
	tells(t, r.x.Free(id), name, text)
	tells(t, r.x.Write(id, 0, nil), name, text)
	tells(t, r.x.Write(id, 0, []byte("x")), name, text)
	tells(t, r.x.Write(id, 4000, []byte("x")), name, text) // ahead of ErrBig
	tells(t, r.x.Write(id, math.MaxInt, []byte("x")), name, text)
	tells(t, r.x.Cut(id, 0), name, text)
	tells(t, r.x.Cut(id, 4001), name, text)
}

func TestNew(t *testing.T) { // 8.1
	r := made(t, 1, 1, 8)
	for _, x := range []struct {
		c     *cache.Cache
		m     *alloc.Map
		at, n int
	}{
		{nil, r.m, 5, 5}, {r.c, nil, 5, 5}, {nil, nil, -1, 0},
		{r.c, r.m, 5, 0}, {r.c, r.m, 5, -1}, {r.c, r.m, 5, math.MinInt}, {r.c, r.m, 5, 201}, {r.c, r.m, 5, math.MaxInt},
		{r.c, r.m, -1, 5}, {r.c, r.m, math.MinInt, 5},
	} {
		y, err := New(x.c, x.m, x.at, x.n)
		if y != nil {
			t.Error(x)
		}
		tells(t, err, "", "inode: error 1")
	}
	r.d.Fuse(0) // nothing is read or written as yet, also where no inode's block is
	for _, x := range [][2]int{{0, 1}, {0, 200}, {5, 7}, {own, 1}, {math.MaxInt, 200}} {
		if y, err := New(r.c, r.m, x[0], x[1]); y == nil || err != nil {
			t.Error(x, err)
		}
	}
	if l := r.c.Changed(); len(l) != 0 {
		t.Error(l)
	}
}

// TestNewNeighbours: noughts are free inodes, whatever stands around them, and what stands there is not touched.
func TestNewNeighbours(t *testing.T) { // 8.1
	for _, n := range []int{1, 2, 199, 200} {
		r := made(t, n, 5, 200)
		around := bytes.Repeat([]byte{255}, api.Block)
		done(t, r.c.Write(at-1, 0, around))
		done(t, r.c.Write(at+n, 0, around))
		done(t, r.c.Flush())
		if left, err := r.x.Left(); left != n || err != nil {
			t.Error(n, left, err)
		}
		for id := 1; id <= n; id++ {
			if k, err := r.x.Kind(id); k != 0 || err != nil {
				t.Fatal(id, k, err)
			}
			r.make(t, id, 1+id%2)
		}
		id, err := r.x.Make(1)
		if id != 0 {
			t.Error(id)
		}
		tells(t, err, "", "inode: error 16")
		if l := r.c.Changed(); len(l) != n || l[0] != at || l[n-1] != at+n-1 {
			t.Error(n, l)
		}
	}
}

func TestMake(t *testing.T) { // 8.1
	r := made(t, 4, 20, 60)
	for _, kind := range []int{0, 3, -1, 257, 258, math.MaxInt, math.MinInt} {
		id, err := r.x.Make(kind)
		if id != 0 {
			t.Error(kind, id)
		}
		tells(t, err, "", "inode: error 1")
	}
	r.make(t, 1, 1, 2, 1, 2)
	for _, kind := range []int{1, 2} {
		id, err := r.x.Make(kind)
		if id != 0 {
			t.Error(id)
		}
		tells(t, err, "", "inode: error 16")
	}
	_, err := r.x.Make(3)
	tells(t, err, "", "inode: error 1") // ahead of that none is free
	for id := 1; id <= 4; id++ {
		if k, err := r.x.Kind(id); k != 2-id%2 || err != nil {
			t.Error(id, k, err)
		}
		done(t, r.x.Write(id, 0, some(id, 200)))
	}
	done(t, r.x.Free(3))
	done(t, r.x.Free(2))
	if n, err := r.x.Left(); n != 2 || err != nil {
		t.Error(n, err)
	}
	r.make(t, 2, 1, 2) // the least that are free, empty though they were not
	for id, kind := range []int{1, 1, 2, 2} {
		if k, err := r.x.Kind(id + 1); k != kind || err != nil {
			t.Error(id+1, k, err)
		}
	}
	r.holds(t, 1, some(1, 200))
	r.holds(t, 2, nil)
	r.holds(t, 3, nil)
	r.holds(t, 4, some(4, 200))
	r.sound(t)
}

func TestNoSuchID(t *testing.T) { // 8.1
	for _, n := range []int{1, 5, 200} {
		r := made(t, n, 20, 60)
		r.make(t, 1, 1)
		r.d.Fuse(0) // told ahead of what the disk tells
		for _, id := range []int{0, -1, n + 1, n + 200, from, math.MaxInt, math.MinInt} {
			r.all(t, id, "error 1", true, true)
		}
		for _, y := range [][2]int{{-1, 0}, {0, -1}, {-1, -1}, {math.MinInt, 5}, {5, math.MinInt}, {math.MinInt, math.MinInt}} {
			b, err := r.x.Read(1, y[0], y[1])
			if len(b) != 0 {
				t.Error(b)
			}
			tells(t, err, "1", "inode 1: error 1")
		}
		for _, at := range []int{-1, math.MinInt} {
			tells(t, r.x.Write(1, at, nil), "1", "inode 1: error 1")
			tells(t, r.x.Write(1, at, some(1, 4001)), "1", "inode 1: error 1")
			tells(t, r.x.Cut(1, at), "1", "inode 1: error 1")
		}
	}
}

func TestFreeOne(t *testing.T) { // 8.1: of what is free ErrNone is told; but its Kind is 0
	r := made(t, 3, 20, 60)
	r.make(t, 1, 1, 2, 1)
	done(t, r.x.Write(2, 0, some(1, 300)))
	for range 2 {
		done(t, r.x.Free(2))
		r.all(t, 2, "error 11", false, true)
		if k, err := r.x.Kind(2); k != 0 || err != nil {
			t.Error(k, err)
		}
		tells(t, r.x.Write(2, -1, nil), "2", "inode 2: error 1") // ErrArg is ahead of it
		tells(t, r.x.Cut(2, -1), "2", "inode 2: error 1")
		r.sound(t)
		r.make(t, 2, 2)
	}
}

// TestFree: all blocks are given back, of every class of sizes.
func TestFree(t *testing.T) { // 8.1, W3
	for _, n := range []int{0, 1, 128, 129, 1024, 1025, 1152, 1153, 3999, 4000} {
		r := made(t, 2, 40, 80)
		r.make(t, 1, 1, 2)
		done(t, r.x.Write(2, 0, some(9, 130)))
		done(t, r.x.Write(1, 0, some(5, n)))
		r.sound(t)
		done(t, r.x.Free(1))
		if free, err := r.m.Free(); free != 38 || err != nil {
			t.Error(n, free, err)
		}
		r.holds(t, 2, some(9, 130))
		r.sound(t)
	}
}

func TestRead(t *testing.T) { // 8.1 and the chapter's example
	r := made(t, 1, 40, 80)
	r.make(t, 1, 1)
	done(t, r.x.Write(1, 2, []byte("x")))
	if b, err := r.x.Read(1, 0, 9); !bytes.Equal(b, []byte{0, 0, 0x78}) || err != nil {
		t.Error(b, err)
	}
	want := some(3, 4000)
	for _, size := range []int{0, 1, 127, 128, 129, 1023, 1024, 1025, 1152, 1153, 3999, 4000} {
		done(t, r.x.Cut(1, 0))
		done(t, r.x.Write(1, 0, want[:size]))
		for _, from := range []int{0, 1, 127, 128, 129, 1000, 1023, 1024, 1025, 1151, 1152, 3999, 4000, 4001, math.MaxInt - 1, math.MaxInt} {
			for _, n := range []int{0, 1, 2, 128, 129, 1024, 3999, 4000, 4001, math.MaxInt - 1, math.MaxInt} {
				b, err := r.x.Read(1, from, n)
				if w := want[min(from, size):size]; !bytes.Equal(b, w[:min(n, len(w))]) || err != nil {
					t.Fatal(size, from, n, len(b), err)
				}
			}
		}
	}
}

func TestWriteBounds(t *testing.T) { // 8.1
	r := made(t, 1, 40, 80)
	r.make(t, 1, 1)
	for _, size := range []int{0, 3, 4000} {
		want := some(size, size)
		done(t, r.x.Cut(1, 0))
		done(t, r.x.Write(1, 0, want))
		changed, all := r.image(t)
		for _, x := range [][2]int{
			{4000, 1}, {3999, 2}, {0, 4001}, {1, 4000}, {4001, 0}, {4001, 1}, {math.MaxInt, 0}, {math.MaxInt, 1}, {math.MaxInt, 4001}, {math.MaxInt - 1, 1},
		} {
			tells(t, r.x.Write(1, x[0], some(1, x[1])), "1", "inode 1: error 5")
		}
		for _, n := range []int{4001, 65536, 65537, math.MaxInt} {
			tells(t, r.x.Cut(1, n), "1", "inode 1: error 5")
		}
		for _, at := range []int{0, 1, 2, 3, 128, 3000, 4000} { // of no bytes nothing is done
			done(t, r.x.Write(1, at, nil))
			done(t, r.x.Write(1, at, []byte{}))
		}
		r.same(t, changed, all)
		r.holds(t, 1, want)
	}
	done(t, r.x.Cut(1, 0))
	done(t, r.x.Write(1, 3999, []byte("x")))
	r.holds(t, 1, append(make([]byte, 3999), 'x'))
	done(t, r.x.Write(1, 0, some(1, 4000)))
	r.holds(t, 1, some(1, 4000))
}

// TestNoughts: what lay in a block, or behind an end, is never read again.
func TestNoughts(t *testing.T) { // 8.1, 8.2
	edges := []int{0, 1, 127, 128, 129, 255, 1023, 1024, 1025, 1152, 1153, 2000, 3999, 4000}
	for _, a := range edges {
		for _, b := range edges {
			r := made(t, 2, 40, 80)
			r.make(t, 1, 1, 1)
			for no := range 40 {
				done(t, r.c.Write(from+no, 0, bytes.Repeat([]byte{255}, api.Block)))
			}
			want := some(1, a)
			done(t, r.x.Write(1, 0, want))
			done(t, r.x.Cut(1, b))
			cut := append(slices.Clone(want), make([]byte, 4000)...)[:b]
			r.holds(t, 1, cut)
			done(t, r.x.Cut(1, a)) // what was cut off is not there again
			again := append(slices.Clone(cut), make([]byte, 4000)...)[:a]
			r.holds(t, 1, again[:a])
			done(t, r.x.Cut(1, min(a, b)))
			if b < 4000 {
				done(t, r.x.Write(1, b, []byte{7}))
				hole := append(append(slices.Clone(cut[:min(a, b)]), make([]byte, b-min(a, b))...), 7)
				r.holds(t, 1, hole)
			}
			r.sound(t)
		}
	}
}

// TestFull: if blocks are wanting nothing is changed, and ErrFull is told of just that.
func TestFull(t *testing.T) { // 8.1; DOC.md, rule 8
	for data := 1; data <= 34; data++ {
		r := made(t, 2, data, 80)
		r.make(t, 1, 1, 1)
		done(t, r.c.Flush())
		for size := 1; size <= 4000; size += 127 {
			changed, all := r.image(t)
			for _, err := range []error{r.x.Write(1, 0, some(2, size)), r.x.Write(1, size-1, []byte{1}), r.x.Cut(1, size)} {
				if budget.Blocks(size) > data {
					tells(t, err, "1", "inode 1: error 15")
				} else {
					done(t, err)
				}
			}
			if budget.Blocks(size) > data {
				r.same(t, changed, all)
				r.holds(t, 1, nil)
				continue
			}
			r.sound(t)
			done(t, r.x.Cut(1, 0))
			r.c.Drop()
		}
	}
}

// TestFullGrow: what an inode has already counts; a Write within its blocks needs none.
func TestFullGrow(t *testing.T) { // 8.1
	r := made(t, 2, 11, 80)
	r.make(t, 1, 1, 2)
	done(t, r.x.Write(1, 0, some(1, 1000)))
	done(t, r.x.Write(2, 0, some(2, 200)))
	tells(t, r.x.Write(1, 1020, some(3, 5)), "1", "inode 1: error 15") // one is free, two are needed
	done(t, r.x.Write(1, 1020, some(3, 4)))
	done(t, r.x.Write(2, 200, some(4, 184))) // the last one
	tells(t, r.x.Cut(2, 385), "2", "inode 2: error 15")
	done(t, r.x.Write(1, 0, some(5, 1024)))
	done(t, r.x.Cut(2, 384))
	r.holds(t, 1, some(5, 1024))
	r.holds(t, 2, append(some(2, 200), some(4, 184)...))
	done(t, r.x.Cut(2, 128))
	done(t, r.x.Write(1, 1024, []byte{9}))
	r.holds(t, 1, append(some(5, 1024), 9))
	r.holds(t, 2, some(2, 128))
	r.sound(t)
}

// TestBlocks: there are just as many as are needed, at every size on the way up and down.
func TestBlocks(t *testing.T) { // 8.1, 8.2
	r := made(t, 2, 40, 80)
	r.make(t, 1, 1, 2)
	if l, err := r.x.Blocks(2); len(l) != 0 || err != nil {
		t.Error(l, err)
	}
	done(t, r.x.Write(2, 0, some(3, 100)))
	want := some(8, 4000)
	for n := 0; n < 4000; n += 50 {
		done(t, r.x.Write(1, n, want[n:n+50]))
		r.holds(t, 1, want[:n+50])
		r.sound(t)
	}
	for n := 4000; n >= 0; n -= 50 {
		done(t, r.x.Cut(1, n))
		r.holds(t, 1, want[:n])
		r.sound(t)
	}
	l, err := r.x.Blocks(2)
	if err != nil || !slices.Equal(l, []int{from}) {
		t.Error(l, err)
	}
	r.holds(t, 2, some(3, 100))
}

// TestRising: blocks that were taken in another order are told rising.
func TestRising(t *testing.T) { // 8.1
	r := made(t, 3, 40, 80)
	r.make(t, 1, 1, 1, 1)
	done(t, r.x.Write(1, 0, some(1, 300)))
	done(t, r.x.Write(2, 0, some(2, 300)))
	done(t, r.x.Free(1))
	done(t, r.x.Write(2, 300, some(3, 300)))
	want := append(some(2, 300), some(3, 300)...)
	r.holds(t, 2, want)
	if l, _ := r.x.Blocks(2); !slices.Equal(l, []int{from, from + 1, from + 3, from + 4, from + 5}) {
		t.Error(l)
	}
	r.sound(t)
}

func TestMemory(t *testing.T) { // DOC.md, rule 3
	r := made(t, 1, 40, 80)
	r.make(t, 1, 1)
	in := append(make([]byte, 0, 300), some(1, 200)...)
	copy(in[200:300], some(2, 100))
	was := slices.Clone(in[:300])
	for _, at := range []int{0, 100, 900} {
		done(t, r.x.Cut(1, 0))
		done(t, r.x.Write(1, at, in))
	}
	if !bytes.Equal(in[:300], was) {
		t.Error("what was handed in is changed")
	}
	clear(in)
	want := append(make([]byte, 900), some(1, 200)...)
	r.holds(t, 1, want)
	b, _ := r.x.Read(1, 0, 4000)
	l, _ := r.x.Blocks(1)
	clear(b[:cap(b)])
	clear(l[:cap(l)])
	r.holds(t, 1, want)
	r.sound(t)
}

// TestFewChanges: a step changes no more blocks than it must.
func TestFewChanges(t *testing.T) { // 8.1
	r := made(t, 2, 40, 80)
	r.make(t, 1, 1)
	done(t, r.x.Write(1, 0, some(1, 1400)))
	done(t, r.c.Flush())
	for _, x := range []struct {
		do   func() error
		want []int
	}{
		{func() error { return r.x.Write(1, 0, some(2, 1400)) }, []int{300, 301, 302, 303, 304, 305, 306, 307, 309, 310, 311}},
		{func() error { return r.x.Write(1, 130, some(2, 3)) }, []int{301}},
		{func() error { return r.x.Write(1, 1400, some(2, 8)) }, []int{at, 311}},
		{func() error { return r.x.Write(1, 1400, some(2, 9)) }, []int{bits, at, 308, 311, 312}},
		{func() error { return r.x.Cut(1, 1400) }, nil},
		{func() error { return r.x.Cut(1, 1290) }, []int{at}},
		{func() error { return r.x.Cut(1, 1200) }, []int{bits, at, 308}},
		{func() error { return r.x.Cut(1, 1024) }, []int{bits, at}},
		{func() error { return r.x.Free(1) }, []int{bits, at}},
	} {
		done(t, x.do())
		if l := r.c.Changed(); !slices.Equal(l, x.want) {
			t.Errorf("%v, not %v", l, x.want)
		}
		r.c.Drop()
	}
}

// TestSteps: what was done is dropped with its step, and lasts behind its Flush.
func TestSteps(t *testing.T) { // 8.1, 8.2
	r := made(t, 3, 60, 80)
	r.make(t, 1, 1)
	done(t, r.x.Write(1, 0, some(1, 2000)))
	if r.d.Writes() != 0 {
		t.Error("written early")
	}
	r.c.Drop()
	if k, err := r.x.Kind(1); k != 0 || err != nil {
		t.Error(k, err)
	}
	r.sound(t)
	r.make(t, 1, 1)
	done(t, r.x.Write(1, 0, some(1, 2000)))
	done(t, r.c.Flush())
	done(t, r.x.Cut(1, 10))
	r.make(t, 2, 2)
	done(t, r.x.Write(2, 0, some(2, 3000)))
	r.c.Drop()
	r.holds(t, 1, some(1, 2000))
	done(t, r.x.Free(1))
	r.c.Drop()
	r.holds(t, 1, some(1, 2000))
	r.sound(t)
	r.open(t, 80)
	r.holds(t, 1, some(1, 2000))
	r.sound(t)
}
