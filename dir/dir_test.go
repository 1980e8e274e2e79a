package dir

import (
	"bytes"
	"errors"
	"fmt"
	"math"
	"slices"
	"strconv"
	"strings"
	"testing"

	"credenza/alloc"
	"credenza/api"
	"credenza/budget"
	"credenza/cache"
	"credenza/disk"
	"credenza/fault"
	"credenza/inode"
	"credenza/journal"
)

// The disk of the tests: the bits of the Map, the inodes and the blocks for their bytes are the Cache's, the Journal's own blocks stand behind them.
const (
	bits   = 1
	at     = 10
	from   = 300
	own    = 900
	blocks = 1200
)

// rig is a directory, which is inode 1, and what it stands on.
type rig struct {
	d *disk.Disk
	c *cache.Cache
	m *alloc.Map
	x *inode.Table
	// the directory itself
	dir *Dir
	// how many inodes and blocks there are
	ids, data int
}

// made is an empty directory on a new disk with so many inodes and blocks, for steps of at most most blocks; it was flushed.
func made(t testing.TB, ids, data, most int) *rig {
	t.Helper()
	d, err := disk.New(blocks)
	done(t, err)
	r := &rig{d: d, ids: ids, data: data}
	r.below(t, max(most, 2))
	if id, err := r.x.Make(2); id != 1 || err != nil {
		t.Fatal(id, err)
	}
	done(t, r.c.Flush())
	r.open(t, most)
	return r
}

// below opens what a directory stands on anew.
func (r *rig) below(t testing.TB, most int) {
	t.Helper()
	j, err := journal.Open(r.d, own, most)
	done(t, err)
	r.c, err = cache.New(j, own)
	done(t, err)
	r.m, err = alloc.New(r.c, bits, from, r.data)
	done(t, err)
	r.x, err = inode.New(r.c, r.m, at, r.ids)
	done(t, err)
}

// open opens all that stands on the disk anew.
func (r *rig) open(t testing.TB, most int) {
	t.Helper()
	r.below(t, most)
	d, err := Of(r.x, 1)
	done(t, err)
	r.dir = d
}

// done looks whether nothing went wrong.
func done(t testing.TB, err error) {
	t.Helper()
	if err != nil {
		t.Fatal(fault.Text(err))
	}
}

// tells looks whether err is just such a text, and a Fault of dir and the name.
func tells(t testing.TB, err error, name, text string) {
	t.Helper()
	f, ok := err.(*api.Fault)
	if !ok || f.Op != "dir" || f.Name != name || fault.Text(err) != text {
		t.Errorf("%q, not %q of %q", fault.Text(err), text, name)
	}
}

// says looks whether err is a Fault of dir and the name, with nothing but that number below it.
func says(t testing.TB, err error, name string, n api.Errno) {
	t.Helper()
	f, ok := err.(*api.Fault)
	if !ok || f.Op != "dir" || f.Name != name || f.Err != error(n) {
		t.Errorf("%q, not error %d of %q", fault.Text(err), n, name)
	}
}

// pair is a name and its id, as the tests tell them.
type pair struct {
	name string
	id   int
}

// laid is the bytes of these names, told by format and padding: not as the program tells them.
func laid(l []pair) []byte {
	var b []byte
	for _, p := range l {
		text := string(rune(len(p.name))) + p.name
		b = append(b, text+strings.Repeat("\x00", 28-len(text))...)
		for _, shift := range []int{24, 16, 8, 0} {
			b = append(b, byte(p.id>>shift&255))
		}
	}
	return b
}

// some are n names with ids, none of them in the order of bytes.
func some(n int) []pair {
	var l []pair
	for i := range n {
		l = append(l, pair{fmt.Sprint("n", (i*67+5)%127, strings.Repeat("~", i%20)), 1 + i*83%200})
	}
	return l
}

// fill makes the directory have just these names, by Put.
func (r *rig) fill(t testing.TB, l []pair) {
	t.Helper()
	for _, p := range l {
		done(t, r.dir.Put(p.name, p.id))
	}
	r.holds(t, l)
}

// raw makes the directory's bytes b.
func (r *rig) raw(t testing.TB, b []byte) {
	t.Helper()
	done(t, r.x.Cut(1, 0))
	done(t, r.x.Write(1, 0, b))
}

// bytes are the directory's bytes.
func (r *rig) bytes(t testing.TB) []byte {
	t.Helper()
	b, err := r.x.Read(1, 0, math.MaxInt)
	done(t, err)
	return b
}

// holds looks whether the directory has just these names, at these places, by all that can be asked.
func (r *rig) holds(t testing.TB, l []pair) {
	t.Helper()
	if b := r.bytes(t); !bytes.Equal(b, laid(l)) {
		t.Fatalf("%q, not %q", b, laid(l))
	}
	if n, err := r.dir.Len(); n != len(l) || err != nil {
		t.Fatal(n, err, len(l))
	}
	var names []string
	for _, p := range l {
		names = append(names, p.name)
		if id, err := r.dir.Find(p.name); id != p.id || err != nil {
			t.Fatal(p, id, err)
		}
	}
	slices.Sort(names)
	if now, err := r.dir.List(); !slices.Equal(now, names) || err != nil {
		t.Fatal(now, err, names)
	}
	had, err := r.x.Blocks(1)
	done(t, err)
	if len(had) != budget.Blocks(32*len(l)) {
		t.Fatal(len(had), len(l))
	}
}

// all are the errors of one of each call that is about a and no argument of which is wrong, with nothing beside them.
func (r *rig) all(t testing.TB, a, b string) []error {
	t.Helper()
	id, find := r.dir.Find(a)
	l, list := r.dir.List()
	n, length := r.dir.Len()
	if id != 0 || len(l) != 0 || n != 0 {
		t.Error(id, l, n)
	}
	return []error{find, r.dir.Put(a, 5), r.dir.Drop(a), r.dir.Turn(a, b), list, length}
}

// names are the names that the Faults of all are about.
func names(a string) []string {
	return []string{a, a, a, a, "", ""}
}

func TestExample(t *testing.T) { // chapter 10, Examples
	r := made(t, 5, 20, 40)
	done(t, r.dir.Put("b", 3))
	done(t, r.dir.Put("a", 4))
	if l, err := r.dir.List(); !slices.Equal(l, []string{"a", "b"}) || err != nil {
		t.Error(l, err)
	}
}

func TestOf(t *testing.T) { // 10.1
	r := made(t, 3, 20, 40)
	r.x.Make(1)
	for _, id := range []int{1, 0, -1, math.MinInt, math.MaxInt} {
		d, err := Of(nil, id)
		if d != nil {
			t.Error(id)
		}
		says(t, err, strconv.Itoa(id), api.ErrArg)
	}
	for _, id := range []int{0, 4, -1, 201, math.MinInt, math.MaxInt} { // what the inode tells, wrapped
		d, err := Of(r.x, id)
		if d != nil {
			t.Error(id)
		}
		tells(t, err, strconv.Itoa(id), fmt.Sprintf("dir %d: inode %d: error 1", id, id))
	}
	for _, id := range []int{2, 3} { // a file, and a free one
		d, err := Of(r.x, id)
		if d != nil {
			t.Error(id)
		}
		says(t, err, strconv.Itoa(id), api.ErrNotDir)
	}
	done(t, r.c.Write(at, 0, []byte{9}))
	d, err := Of(r.x, 1)
	if d != nil {
		t.Error("a Dir of an inode of kind 9")
	}
	tells(t, err, "1", "dir 1: inode 1: error 3")
	r.c.Drop()
	r.d.Fuse(0)
	_, err = Of(r.x, 1)
	tells(t, err, "1", "dir 1: inode 1: cache 10: journal: disk 10: error 50")
	r.d.Power()
	r.raw(t, []byte("no records"))
	if d, err := Of(r.x, 1); d == nil || err != nil { // the others tell of the bytes
		t.Error(err)
	}
}

func TestEmpty(t *testing.T) { // 10.1
	r := made(t, 3, 20, 40)
	r.holds(t, nil)
	_, err := r.dir.Find("a")
	says(t, err, "a", api.ErrNone)
	says(t, r.dir.Drop("a"), "a", api.ErrNone)
	says(t, r.dir.Turn("a", "b"), "a", api.ErrNone)
	says(t, r.dir.Turn("a", "a"), "a", api.ErrNone)
	if l := r.c.Changed(); len(l) != 0 {
		t.Error(l)
	}
}

// TestPut: each length of a name and each id stands in the bytes as the chapter says, behind all others.
func TestPut(t *testing.T) { // 10.1
	r := made(t, 3, 60, 80)
	var l []pair
	for n := range 27 {
		l = append(l, pair{strings.Repeat("x", 27-n), 1 + 199*n/26})
	}
	r.fill(t, l)
	done(t, r.dir.Drop(l[0].name))
	l[0], l = l[26], l[:26]
	r.holds(t, l)
	for id := 1; id <= 200; id++ {
		r.c.Drop()
		done(t, r.dir.Put("a.conf", id))
		r.holds(t, []pair{{"a.conf", id}})
	}
}

func TestPutWrong(t *testing.T) { // 10.1; DOC.md, rule 5
	r := made(t, 3, 60, 80)
	r.fill(t, []pair{{"a", 1}, {"b", 2}})
	was := r.c.Changed()
	for _, s := range wrongNames() {
		for _, id := range []int{1, 0, 201} {
			says(t, r.dir.Put(s, id), s, api.ErrName)
		}
	}
	for _, id := range []int{0, -1, 201, 256, 257, 1 << 32, 1<<32 + 1, math.MinInt, math.MaxInt} {
		says(t, r.dir.Put("c", id), "c", api.ErrArg)
		says(t, r.dir.Put("a", id), "a", api.ErrArg)
	}
	says(t, r.dir.Put("a", 1), "a", api.ErrExists)
	says(t, r.dir.Put("b", 200), "b", api.ErrExists)
	r.holds(t, []pair{{"a", 1}, {"b", 2}})
	if l := r.c.Changed(); !slices.Equal(l, was) {
		t.Error(l, was)
	}
}

// wrongNames are texts that are no names.
func wrongNames() []string {
	return []string{"", ".", "..", "/", "a/b", "/a", "a ", "a\x00", "\x00", "ä", "\xff", "a\n", strings.Repeat("a", 28), strings.Repeat("a", 256+1), strings.Repeat("a", 1<<16)}
}

func TestFind(t *testing.T) { // 10.1
	r := made(t, 3, 60, 80)
	l := some(120)
	r.fill(t, l)
	for _, s := range wrongNames() {
		id, err := r.dir.Find(s)
		if id != 0 {
			t.Error(s, id)
		}
		says(t, err, s, api.ErrName)
	}
	for _, s := range []string{"n", "N5", "n5~~", "5", "~", "n127", "..."} {
		id, err := r.dir.Find(s)
		if id != 0 {
			t.Error(s, id)
		}
		says(t, err, s, api.ErrNone)
	}
}

// TestFindIds: an id is four bytes, the highest first, whatever number that is; moving and turning keep it.
func TestFindIds(t *testing.T) { // 10.1
	for _, id := range []int{1, 200, 201, 255, 256, 0x0100, 0x010000, 0x01000000, 0x01020304, 0x7fffffff, 0x80000000, 0xffffffff} {
		r := made(t, 3, 20, 40)
		r.raw(t, laid([]pair{{"a", 7}, {"b", id}}))
		r.holds(t, []pair{{"a", 7}, {"b", id}})
		done(t, r.dir.Turn("b", "c"))
		r.holds(t, []pair{{"a", 7}, {"c", id}})
		done(t, r.dir.Drop("a"))
		r.holds(t, []pair{{"c", id}})
	}
}

// TestDrop: from whatever place a name is taken out, the last record has that place, and no block is had that is not needed.
func TestDrop(t *testing.T) { // 10.1
	for _, n := range []int{1, 2, 3, 4, 5, 6, 8, 9, 31, 32, 33, 34, 36, 37, 119, 120} {
		r := made(t, 3, 60, 80)
		l := some(n)
		r.fill(t, l)
		done(t, r.c.Flush())
		for i := range n {
			done(t, r.dir.Drop(l[i].name))
			now := slices.Clone(l)
			now[i] = now[n-1]
			if b := r.bytes(t); !bytes.Equal(b, laid(now[:n-1])) {
				t.Fatalf("%d of %d: %q", i, n, b)
			}
			says(t, r.dir.Drop(l[i].name), l[i].name, api.ErrNone)
			r.c.Drop()
		}
		for i := range n { // and all of them, from the front
			done(t, r.dir.Drop(l[i].name))
			if k, err := r.dir.Len(); k != n-1-i || err != nil {
				t.Fatal(k, err)
			}
		}
		if free, err := r.m.Free(); free != 60 || err != nil {
			t.Error(free, err)
		}
	}
}

// TestDropLast: no record is moved, if it is the last that goes.
func TestDropLast(t *testing.T) { // 10.1; DOC.md, rule 8
	r := made(t, 3, 60, 80)
	l := some(7)
	r.fill(t, l)
	done(t, r.c.Flush())
	done(t, r.dir.Drop(l[6].name))
	r.holds(t, l[:6])
	if now := r.c.Changed(); !slices.Equal(now, []int{at}) {
		t.Error(now)
	}
}

func TestDropWrong(t *testing.T) { // 10.1
	r := made(t, 3, 60, 80)
	r.fill(t, []pair{{"a", 1}, {"b", 2}})
	for _, s := range wrongNames() {
		says(t, r.dir.Drop(s), s, api.ErrName)
	}
	for _, s := range []string{"c", "A", "aa", "a~"} {
		says(t, r.dir.Drop(s), s, api.ErrNone)
	}
	r.holds(t, []pair{{"a", 1}, {"b", 2}})
}

// TestTurn: a's record has the name b, at a's place and with a's id, be it longer or shorter.
func TestTurn(t *testing.T) { // 10.1
	r := made(t, 3, 60, 80)
	l := some(120)
	r.fill(t, l)
	done(t, r.c.Flush())
	for i, p := range l {
		for _, b := range []string{"z", strings.Repeat("z", 27), p.name + "_", p.name[1:]} {
			done(t, r.dir.Turn(p.name, b))
			now := slices.Clone(l)
			now[i].name = b
			if got := r.bytes(t); !bytes.Equal(got, laid(now)) {
				t.Fatal(i, b)
			}
			_, err := r.dir.Find(p.name)
			says(t, err, p.name, api.ErrNone)
			r.c.Drop()
		}
	}
	for _, p := range l { // to its own name
		done(t, r.dir.Turn(p.name, p.name))
	}
	r.holds(t, l)
}

func TestTurnWrong(t *testing.T) { // 10.1; DOC.md, rule 5
	r := made(t, 3, 60, 80)
	r.fill(t, []pair{{"a", 1}, {"b", 2}, {"c", 3}})
	for _, s := range wrongNames() {
		says(t, r.dir.Turn(s, "b"), s, api.ErrName)
		says(t, r.dir.Turn(s, "x"), s, api.ErrName)
		says(t, r.dir.Turn("a", s), s, api.ErrName)
		says(t, r.dir.Turn("x", s), s, api.ErrName) // ahead of that x is not there
		says(t, r.dir.Turn(s, "not ok"), s, api.ErrName)
		says(t, r.dir.Turn("not ok", s), "not ok", api.ErrName)
	}
	says(t, r.dir.Turn("x", "y"), "x", api.ErrNone)
	says(t, r.dir.Turn("x", "a"), "x", api.ErrNone)
	says(t, r.dir.Turn("x", "x"), "x", api.ErrNone)
	for _, a := range []string{"a", "b", "c"} {
		for _, b := range []string{"a", "b", "c"} {
			if a != b {
				says(t, r.dir.Turn(a, b), b, api.ErrExists)
			}
		}
	}
	r.holds(t, []pair{{"a", 1}, {"b", 2}, {"c", 3}})
}

// TestList: by bytes, whatever the order in which they were put.
func TestList(t *testing.T) { // 10.1
	want := []string{"+", "-", "...", "0", "00", "9", "A", "Z", "Z.", "Za", "_", "a", "a+", "a-", "a.", "a0", "aa", "z", "~", "~~"}
	for turn := range want {
		r := made(t, 3, 60, 80)
		for i := range want {
			done(t, r.dir.Put(want[(turn+i*7)%len(want)], 1))
		}
		l, err := r.dir.List()
		if !slices.Equal(l, want) || err != nil {
			t.Error(l, err)
		}
		l = append(l[:3], "x", "y") // what is answered is no piece of anything
		again, err := r.dir.List()
		if !slices.Equal(again, want) || err != nil {
			t.Error(l, again, err)
		}
	}
}

func TestMany(t *testing.T) { // 10.1
	r := made(t, 3, 60, 80)
	l := some(120)
	r.fill(t, l)
	says(t, r.dir.Put("more", 5), "more", api.ErrMany)
	says(t, r.dir.Put(l[7].name, 5), l[7].name, api.ErrExists) // ahead of it
	says(t, r.dir.Put("more", 0), "more", api.ErrArg)
	says(t, r.dir.Put("/", 5), "/", api.ErrName)
	r.holds(t, l)
	done(t, r.dir.Turn(l[7].name, "other"))
	l[7].name = "other"
	r.holds(t, l)
	done(t, r.dir.Drop("other"))
	l[7], l = l[119], l[:119]
	done(t, r.dir.Put("more", 5))
	r.holds(t, append(l, pair{"more", 5}))
}

// TestBeyond: an inode has room for 125 records; those are records too, but there is no Put.
func TestBeyond(t *testing.T) { // 10.1, 10.2
	for n := 121; n <= 125; n++ {
		r := made(t, 3, 60, 80)
		l := some(n)
		r.raw(t, laid(l))
		r.holds(t, l)
		says(t, r.dir.Put("more", 5), "more", api.ErrMany)
		says(t, r.dir.Put(l[n-1].name, 5), l[n-1].name, api.ErrExists)
		done(t, r.dir.Turn(l[n-1].name, "z"))
		done(t, r.dir.Drop(l[0].name))
		l[n-1].name = "z"
		l[0] = l[n-1]
		r.holds(t, l[:n-1])
	}
}

// TestSeen: nothing of the bytes is kept from call to call, and two Dirs of one inode are one directory.
func TestSeen(t *testing.T) { // 10.1, 10.2
	r := made(t, 3, 60, 80)
	other, err := Of(r.x, 1)
	done(t, err)
	r.fill(t, []pair{{"a", 1}})
	done(t, r.c.Flush())
	done(t, other.Put("b", 2))
	r.holds(t, []pair{{"a", 1}, {"b", 2}})
	done(t, other.Drop("a"))
	done(t, r.dir.Turn("b", "c"))
	if id, err := other.Find("c"); id != 2 || err != nil {
		t.Error(id, err)
	}
	r.holds(t, []pair{{"c", 2}})
	r.c.Drop()
	r.holds(t, []pair{{"a", 1}})
	r.raw(t, laid(some(50)))
	r.holds(t, some(50))
	done(t, r.x.Cut(1, 0))
	r.holds(t, nil)
}

// TestApart: directories of one table do not touch one another.
func TestApart(t *testing.T) { // 10.2, W3
	r := made(t, 5, 100, 90)
	x, err := r.x.Make(2)
	done(t, err)
	second, err := Of(r.x, x)
	done(t, err)
	l := some(60)
	for i, p := range l {
		done(t, r.dir.Put(p.name, p.id))
		done(t, second.Put(p.name, 201-p.id))
		if i%3 == 0 {
			done(t, second.Drop(p.name))
		}
	}
	r.holds(t, l)
	for i, p := range l {
		id, err := second.Find(p.name)
		if i%3 == 0 {
			says(t, err, p.name, api.ErrNone)
		} else if id != 201-p.id || err != nil {
			t.Error(p, id, err)
		}
	}
	if n, err := second.Len(); n != 40 || err != nil {
		t.Error(n, err)
	}
}

// TestGone: what the inode tells is wrapped, if it is no longer there.
func TestGone(t *testing.T) { // 10.1 and Ways
	r := made(t, 3, 60, 80)
	r.fill(t, some(9))
	done(t, r.x.Free(1))
	for i, err := range r.all(t, "a", "b") {
		name := names("a")[i]
		tells(t, err, name, strings.TrimRight("dir "+name, " ")+": inode 1: error 11")
	}
	if !errors.Is(r.dir.Drop("a"), api.ErrNone) {
		t.Error("Drop")
	}
}
