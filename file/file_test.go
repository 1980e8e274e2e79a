package file

import (
	"bytes"
	"errors"
	"fmt"
	"math"
	"strings"
	"testing"

	"credenza/api"
	"credenza/disk"
	"credenza/fault"
	"credenza/fs"
)

// rig is a disk, the tree on it, and its handles.
type rig struct {
	d *disk.Disk
	f *fs.FS
	x *Files
}

// made is an empty tree without handles.
func made(t testing.TB, blocks, inodes, reserve int) *rig {
	t.Helper()
	d, err := disk.New(blocks)
	done(t, err)
	f, err := fs.Format(d, inodes, reserve)
	done(t, err)
	x, err := New(f)
	done(t, err)
	return &rig{d: d, f: f, x: x}
}

// some is a tree with a file /a of six bytes, a file /d/b, and a directory /d, and a handle on /a by each mode, which is its number.
func some(t testing.TB) *rig {
	t.Helper()
	r := made(t, 256, 20, 5)
	done(t, r.f.Put("/a", []byte("abcdef")))
	done(t, r.f.Mkdir("/d"))
	done(t, r.f.Put("/d/b", []byte("b")))
	for mode := api.MRead; mode <= api.MAppend; mode++ {
		r.opens(t, "/a", mode, mode)
	}
	return r
}

// done looks whether nothing went wrong.
func done(t testing.TB, err error) {
	t.Helper()
	if err != nil {
		t.Fatal(fault.Text(err))
	}
}

// is says whether err is a Fault of this layer and of name, with that number at the bottom.
func is(err error, name string, n api.Errno) bool {
	f, ok := err.(*api.Fault)
	return ok && f.Op == "file" && f.Name == name && errors.Is(err, n) && fault.Num(err) == n
}

// tells looks whether err is a Fault of this layer and of name, with that number at the bottom.
func tells(t testing.TB, err error, name string, n api.Errno) {
	t.Helper()
	if !is(err, name, n) {
		t.Errorf("%q, not error %d of %q", fault.Text(err), n, name)
	}
}

// opens looks whether Open gives handle h.
func (r *rig) opens(t testing.TB, path string, mode, h int) {
	t.Helper()
	if got, err := r.x.Open(path, mode); got != h || err != nil {
		t.Fatal(path, mode, got, fault.Text(err), h)
	}
}

// refuses looks whether Open tells that number, and nothing beside it.
func (r *rig) refuses(t testing.TB, path string, mode int, n api.Errno) {
	t.Helper()
	h, err := r.x.Open(path, mode)
	if h != 0 {
		t.Error(path, mode, h)
	}
	tells(t, err, path, n)
}

// reads looks whether Read gives just these bytes.
func (r *rig) reads(t testing.TB, h, n int, want string) {
	t.Helper()
	if b, err := r.x.Read(h, n); string(b) != want || err != nil {
		t.Errorf("%d %d: %q %s, not %q", h, n, b, fault.Text(err), want)
	}
}

// writes writes.
func (r *rig) writes(t testing.TB, h int, s string) {
	t.Helper()
	if err := r.x.Write(h, []byte(s)); err != nil {
		t.Errorf("%d %.9q: %s", h, s, fault.Text(err))
	}
}

// told looks whether Tell tells this.
func (r *rig) told(t testing.TB, h, mode, at, size int) {
	t.Helper()
	want := api.Handle{Mode: mode, At: at, Size: size}
	if got, err := r.x.Tell(h); got != want || err != nil {
		t.Error(h, got, fault.Text(err), want)
	}
}

// has looks whether the file at path has just these bytes, and all is in order.
func (r *rig) has(t testing.TB, path, want string) {
	t.Helper()
	if b, err := r.f.Get(path); string(b) != want || err != nil {
		t.Errorf("%s: %q %s, not %q", path, b, fault.Text(err), want)
	}
	done(t, r.f.Check())
}

// held is how often path is held.
func (r *rig) held(t testing.TB, path string) int {
	t.Helper()
	i, err := r.f.Stat(path)
	done(t, err)
	return i.Held
}

// same looks whether do leaves all that can be told of the handles and of the tree as it was, and writes nothing.
func (r *rig) same(t testing.TB, do func()) {
	t.Helper()
	was, writes := r.all(t), r.d.Writes()
	do()
	if now := r.all(t); now != was {
		t.Errorf("%s, not %s", now, was)
	}
	if r.d.Writes() != writes {
		t.Error("something is written")
	}
}

// all is all that can be told of the handles and of the tree.
func (r *rig) all(t testing.TB) string {
	t.Helper()
	s := fmt.Sprint(r.x.Len())
	for h := -1; h <= 18; h++ {
		y, err := r.x.Tell(h)
		s += fmt.Sprint(" ", y, fault.Num(err))
	}
	room, err := r.f.Room()
	return fmt.Sprint(s, room, fault.Num(err)) + r.tree(t, "")
}

// tree is what is in the directory at path, in one text.
func (r *rig) tree(t testing.TB, path string) string {
	t.Helper()
	l, err := r.f.List("/" + strings.TrimPrefix(path, "/"))
	done(t, err)
	s := ""
	for _, n := range l {
		p := path + "/" + n
		i, err := r.f.Stat(p)
		done(t, err)
		s += fmt.Sprintf(" %s %v", p, i)
		if i.Dir {
			s += r.tree(t, p)
			continue
		}
		b, err := r.f.Get(p)
		done(t, err)
		s += fmt.Sprintf(" %q", b)
	}
	return s
}

// notOpen are numbers of which no handle is one on a tree that some lays.
func notOpen() []int {
	return []int{0, -1, 5, 9, 16, 17, 100, math.MaxInt, math.MinInt}
}

func TestExample(t *testing.T) { // chapter 12, Examples
	r := made(t, 256, 20, 5)
	r.opens(t, "/a", api.MAppend, 1)
	r.writes(t, 1, "x")
	r.writes(t, 1, "y")
	r.has(t, "/a", "xy")
}

func TestNew(t *testing.T) { // 12.1
	x, err := New(nil)
	if x != nil {
		t.Error(x)
	}
	tells(t, err, "", api.ErrArg)
	r := made(t, 256, 20, 5)
	if r.x.Len() != 0 {
		t.Error(r.x.Len())
	}
	other, err := New(r.f) // handles of their own, on one tree
	done(t, err)
	r.opens(t, "/a", api.MMake, 1)
	if h, err := other.Open("/a", api.MRead); h != 1 || err != nil || other.Len() != 1 || r.held(t, "/a") != 2 {
		t.Error(h, err)
	}
	done(t, other.Close(1))
	if other.Len() != 0 || r.x.Len() != 1 || r.held(t, "/a") != 1 {
		t.Error(other.Len(), r.x.Len())
	}
}

func TestOpenWrong(t *testing.T) { // 12.1
	r := some(t)
	r.same(t, func() {
		for _, mode := range []int{0, -1, 5, 6, 100, math.MaxInt, math.MinInt} {
			for _, p := range []string{"/a", "/d", "/q", "/", "", "a"} { // ahead of what is wrong about the path
				r.refuses(t, p, mode, api.ErrArg)
			}
		}
		for mode := api.MRead; mode <= api.MAppend; mode++ {
			for _, p := range []string{"", "a", "//", "/a/", "/..", "/\xff", "/" + strings.Repeat("n", 28), "/1/2/3/4/5/6/7"} {
				r.refuses(t, p, mode, api.ErrName)
			}
			for _, p := range []string{"/", "/d"} {
				r.refuses(t, p, mode, api.ErrDir)
			}
			r.refuses(t, "/q/a", mode, api.ErrNone)
			r.refuses(t, "/a/b", mode, api.ErrNotDir)
		}
		for _, mode := range []int{api.MRead, api.MWrite} {
			r.refuses(t, "/q", mode, api.ErrNone)
			r.refuses(t, "/d/q", mode, api.ErrNone)
		}
	})
}

// TestOpenMakes: MMake and MAppend make what is not there, and take what is there as it is.
func TestOpenMakes(t *testing.T) { // 12.1
	for _, mode := range []int{api.MMake, api.MAppend} {
		r := some(t)
		r.opens(t, "/n", mode, 5)
		r.told(t, 5, mode, 0, 0)
		r.has(t, "/n", "")
		r.opens(t, "/d/b", mode, 6)
		r.told(t, 6, mode, 0, 1)
		r.opens(t, "/n", mode, 7)
		r.has(t, "/d/b", "b")
		r.reads(t, 6, 9, "b")
	}
}

// TestOpenRefused: what Make tells is told, and only of what is to be made.
func TestOpenRefused(t *testing.T) { // 12.1
	for _, mode := range []int{api.MMake, api.MAppend} {
		many := made(t, 2048, 200, 0)
		for i := range 120 {
			done(t, many.f.Make(fmt.Sprint("/n", i)))
		}
		inodes := made(t, 256, 8, 0)
		for i := range 7 {
			done(t, inodes.f.Make(fmt.Sprint("/n", i)))
		}
		full := made(t, 128, 23, 0) // 8 blocks for data, of which the root has one
		for i := range 4 {
			done(t, full.f.Make(fmt.Sprint("/n", i)))
		}
		done(t, full.f.Put("/n3", make([]byte, 7*128)))
		kept := made(t, 128, 20, 3) // 11 blocks for data, of which 3 are kept
		for i := range 4 {
			done(t, kept.f.Make(fmt.Sprint("/n", i)))
		}
		done(t, kept.f.Put("/n3", make([]byte, 7*128)))
		for n, r := range map[api.Errno]*rig{api.ErrMany: many, api.ErrInodes: inodes, api.ErrFull: full} {
			r.same(t, func() { r.refuses(t, "/x", mode, n) })
			r.opens(t, "/n3", mode, 1)
		}
		kept.same(t, func() { kept.refuses(t, "/x", mode, api.ErrFull) })
	}
}

// TestOpenMany: 16 handles and no more; of a 17th nothing is made.
func TestOpenMany(t *testing.T) { // 12.1
	r := some(t)
	for h := 5; h <= 16; h++ {
		r.opens(t, "/a", 1+h%4, h)
		if r.x.Len() != h {
			t.Error(h, r.x.Len())
		}
	}
	if n := r.held(t, "/a"); n != 16 {
		t.Error(n)
	}
	r.same(t, func() {
		for mode := api.MRead; mode <= api.MAppend; mode++ {
			for _, p := range []string{"/a", "/fresh", "/d", "/", "no path", ""} {
				r.refuses(t, p, mode, api.ErrMany)
			}
		}
		r.refuses(t, "/a", 0, api.ErrArg) // ahead of it
		r.refuses(t, "/a", 5, api.ErrArg)
	})
	for _, h := range []int{16, 1, 7} {
		done(t, r.x.Close(h))
		r.opens(t, "/d/b", api.MRead, h)
	}
}

// TestLeast: a new handle is the least that is not open, at place 0, whatever it was ahead of that.
func TestLeast(t *testing.T) { // 12.1
	r := some(t)
	r.reads(t, 2, 4, "abcd")
	r.reads(t, 4, 4, "abcd")
	done(t, r.x.Close(4))
	done(t, r.x.Close(2))
	r.opens(t, "/d/b", api.MRead, 2)
	r.told(t, 2, api.MRead, 0, 1)
	tells(t, r.x.Write(2, nil), "2", api.ErrState) // it was one that writes
	r.opens(t, "/a", api.MAppend, 4)
	r.told(t, 4, api.MAppend, 0, 6)
	r.opens(t, "/a", api.MRead, 5)
	for h := 1; h <= 5; h++ {
		done(t, r.x.Close(h))
	}
	r.opens(t, "/a", api.MRead, 1)
}

func TestRead(t *testing.T) { // 12.1
	for mode := api.MRead; mode <= api.MAppend; mode++ { // every mode reads
		r := some(t)
		r.reads(t, mode, 0, "")
		r.reads(t, mode, 2, "ab")
		r.told(t, mode, mode, 2, 6)
		r.reads(t, mode, 3, "cde")
		r.reads(t, mode, 3, "f")
		r.told(t, mode, mode, 6, 6)
		r.reads(t, mode, 3, "")
		r.told(t, mode, mode, 6, 6)
		done(t, r.x.Seek(mode, 1))
		r.reads(t, mode, math.MaxInt, "bcdef")
		done(t, r.x.Seek(mode, 4000)) // behind the end the place stays
		r.reads(t, mode, math.MaxInt, "")
		r.told(t, mode, mode, 4000, 6)
	}
}

func TestReadWrong(t *testing.T) { // 12.1
	r := some(t)
	r.reads(t, 1, 2, "ab")
	r.same(t, func() {
		for _, n := range []int{-1, math.MinInt} {
			b, err := r.x.Read(1, n)
			if len(b) != 0 {
				t.Error(b)
			}
			tells(t, err, "1", api.ErrArg)
		}
		for _, h := range notOpen() {
			for _, n := range []int{0, 3, -1} {
				b, err := r.x.Read(h, n)
				if len(b) != 0 {
					t.Error(b)
				}
				tells(t, err, fmt.Sprint(h), api.ErrHandle)
			}
		}
	})
}

func TestWrite(t *testing.T) { // 12.1
	for _, mode := range []int{api.MWrite, api.MMake} {
		r := some(t)
		r.writes(t, mode, "XY")
		r.told(t, mode, mode, 2, 6)
		r.has(t, "/a", "XYcdef")
		r.reads(t, mode, 1, "c")
		r.writes(t, mode, "Z")
		r.has(t, "/a", "XYcZef")
		r.writes(t, mode, "")
		r.told(t, mode, mode, 4, 6)
		done(t, r.x.Seek(mode, 8))
		r.writes(t, mode, "") // nothing is done, not even up to its place
		r.told(t, mode, mode, 8, 6)
		r.writes(t, mode, "end")
		r.told(t, mode, mode, 11, 11)
		r.has(t, "/a", "XYcZef\x00\x00end")
		r.told(t, 1, api.MRead, 0, 11) // the other handles' places stay
		done(t, r.x.Seek(mode, 3999))
		r.writes(t, mode, "!")
		r.told(t, mode, mode, 4000, 4000)
	}
}

// TestAppend: whatever its place, MAppend writes from the end on, wherever that is by then.
func TestAppend(t *testing.T) { // 12.1
	r := some(t)
	r.writes(t, 4, "gh")
	r.told(t, 4, api.MAppend, 8, 8)
	r.has(t, "/a", "abcdefgh")
	done(t, r.x.Seek(4, 2))
	r.reads(t, 4, 2, "cd")
	r.writes(t, 4, "i")
	r.told(t, 4, api.MAppend, 9, 9)
	done(t, r.x.Seek(2, 12))
	r.writes(t, 2, "m")
	r.told(t, 4, api.MAppend, 9, 13)
	r.writes(t, 4, "n")
	r.has(t, "/a", "abcdefghi\x00\x00\x00mn")
	done(t, r.x.Cut(2, 3))
	r.told(t, 4, api.MAppend, 14, 3)
	r.writes(t, 4, "+")
	r.told(t, 4, api.MAppend, 4, 4)
	done(t, r.x.Seek(4, 4000))
	r.writes(t, 4, "")
	r.told(t, 4, api.MAppend, 4, 4) // behind no bytes at the end
	r.has(t, "/a", "abc+")
	r.writes(t, 4, strings.Repeat("x", 3996))
	r.told(t, 4, api.MAppend, 4000, 4000)
	r.same(t, func() { tells(t, r.x.Write(4, []byte("x")), "4", api.ErrBig) })
	r.writes(t, 4, "")
}

func TestWriteWrong(t *testing.T) { // 12.1
	r := some(t)
	done(t, r.x.Seek(2, 3))
	done(t, r.x.Seek(3, 4000))
	done(t, r.x.Seek(4, 4000))
	r.same(t, func() {
		for _, n := range []int{0, 1, 4001} {
			b := make([]byte, n)
			tells(t, r.x.Write(1, b), "1", api.ErrState)
			for _, h := range notOpen() {
				tells(t, r.x.Write(h, b), fmt.Sprint(h), api.ErrHandle)
			}
		}
		tells(t, r.x.Write(2, make([]byte, 3998)), "2", api.ErrBig)
		tells(t, r.x.Write(2, make([]byte, 9999)), "2", api.ErrBig)
		tells(t, r.x.Write(3, make([]byte, 1)), "3", api.ErrBig)
		tells(t, r.x.Write(4, make([]byte, 3995)), "4", api.ErrBig)
	})
	done(t, r.x.Write(2, make([]byte, 3997)))
	done(t, r.x.Write(3, nil))
}

// TestFull: Write and Cut leave the reserve, and what fs refuses changes nothing.
func TestFull(t *testing.T) { // 12.1, W6
	r := made(t, 128, 20, 3)
	r.opens(t, "/a", api.MMake, 1)
	r.opens(t, "/a", api.MAppend, 2)
	done(t, r.f.Put("/b", make([]byte, 6*128)))
	r.writes(t, 1, "abc")
	r.same(t, func() {
		tells(t, r.x.Write(1, make([]byte, 128)), "1", api.ErrFull)
		tells(t, r.x.Write(2, make([]byte, 128)), "2", api.ErrFull)
		tells(t, r.x.Cut(1, 129), "1", api.ErrFull)
		tells(t, r.x.Cut(2, 4000), "2", api.ErrFull)
		tells(t, r.x.Cut(2, 4001), "2", api.ErrBig)
	})
	r.writes(t, 2, "d")
	done(t, r.x.Cut(1, 128))
	done(t, r.x.Seek(1, 4000))
	r.writes(t, 1, "") // no room is needed
}

func TestSeek(t *testing.T) { // 12.1
	r := some(t)
	for h := 1; h <= 4; h++ {
		r.same(t, func() {
			for _, at := range []int{-1, 4001, math.MaxInt, math.MinInt} {
				tells(t, r.x.Seek(h, at), fmt.Sprint(h), api.ErrArg)
			}
		})
		for _, at := range []int{4000, 7, 6, 3, 0} {
			writes := r.d.Writes()
			done(t, r.x.Seek(h, at))
			r.told(t, h, h, at, 6)
			if r.d.Writes() != writes {
				t.Error("something is written")
			}
		}
	}
	r.same(t, func() {
		for _, h := range notOpen() {
			for _, at := range []int{0, -1, 4001} {
				tells(t, r.x.Seek(h, at), fmt.Sprint(h), api.ErrHandle)
			}
		}
	})
	done(t, r.x.Seek(1, 2)) // each has a place of its own
	r.told(t, 2, 2, 0, 6)
	r.reads(t, 1, 9, "cdef")
	r.reads(t, 2, 9, "abcdef")
}

func TestCut(t *testing.T) { // 12.1
	for mode := api.MWrite; mode <= api.MAppend; mode++ {
		r := some(t)
		r.reads(t, mode, 4, "abcd")
		done(t, r.x.Cut(mode, 2))
		r.told(t, mode, mode, 4, 2)
		r.has(t, "/a", "ab")
		r.reads(t, mode, 9, "")
		r.told(t, mode, mode, 4, 2)
		done(t, r.x.Cut(mode, 5))
		r.has(t, "/a", "ab\x00\x00\x00")
		r.reads(t, mode, 9, "\x00")
		done(t, r.x.Cut(mode, 4000))
		r.told(t, mode, mode, 5, 4000)
		r.same(t, func() {
			for _, size := range []int{4001, math.MaxInt} {
				tells(t, r.x.Cut(mode, size), fmt.Sprint(mode), api.ErrBig)
			}
			for _, size := range []int{-1, math.MinInt} {
				tells(t, r.x.Cut(mode, size), fmt.Sprint(mode), api.ErrArg)
				tells(t, r.x.Cut(1, size), "1", api.ErrState)
			}
			tells(t, r.x.Cut(1, 0), "1", api.ErrState)
			tells(t, r.x.Cut(1, 5000), "1", api.ErrState)
			for _, h := range notOpen() {
				for _, size := range []int{0, -1, 4001} {
					tells(t, r.x.Cut(h, size), fmt.Sprint(h), api.ErrHandle)
				}
			}
		})
		done(t, r.x.Cut(mode, 0))
		r.told(t, mode, mode, 5, 0)
		r.has(t, "/a", "")
	}
}

func TestClose(t *testing.T) { // 12.1
	r := some(t)
	r.same(t, func() {
		for _, h := range notOpen() {
			tells(t, r.x.Close(h), fmt.Sprint(h), api.ErrHandle)
			y, err := r.x.Tell(h)
			if y != (api.Handle{}) {
				t.Error(y)
			}
			tells(t, err, fmt.Sprint(h), api.ErrHandle)
		}
	})
	for i, h := range []int{2, 4, 1, 3} {
		done(t, r.x.Close(h))
		if r.x.Len() != 3-i || r.held(t, "/a") != 3-i {
			t.Error(h, r.x.Len(), r.held(t, "/a"))
		}
		s := fmt.Sprint(h)
		tells(t, r.x.Close(h), s, api.ErrHandle)
		_, err := r.x.Read(h, 1)
		tells(t, err, s, api.ErrHandle)
		tells(t, r.x.Write(h, nil), s, api.ErrHandle)
		tells(t, r.x.Seek(h, 0), s, api.ErrHandle)
		tells(t, r.x.Cut(h, 0), s, api.ErrHandle)
		_, err = r.x.Tell(h)
		tells(t, err, s, api.ErrHandle)
	}
	r.has(t, "/a", "abcdef")
}

// TestRenames: a handle stays with its file, whatever name that has.
func TestRenames(t *testing.T) { // 12.2
	r := some(t)
	r.reads(t, 2, 2, "ab")
	done(t, r.f.Rename("/a", "/d/z"))
	done(t, r.f.Rename("/d", "/e"))
	done(t, r.f.Put("/a", []byte("another")))
	r.opens(t, "/a", api.MRead, 5)
	r.writes(t, 2, "XY")
	r.writes(t, 4, "+")
	r.has(t, "/e/z", "abXYef+")
	r.has(t, "/a", "another")
	r.reads(t, 1, 9, "abXYef+")
	r.reads(t, 5, 9, "another")
	done(t, r.f.Put("/e/z", []byte("new"))) // Put is on the same file
	r.told(t, 1, api.MRead, 7, 3)
	done(t, r.x.Seek(1, 0))
	r.reads(t, 1, 9, "new")
	done(t, r.f.Keep("/e/z", []byte("kept")))
	done(t, r.x.Seek(1, 0))
	r.reads(t, 1, 9, "kept")
}

// TestNameless: a handle goes on behind its file's last name, and the file is gone with its last handle.
func TestNameless(t *testing.T) { // 12.2, W3
	for name, lose := range map[string]func(r *rig) error{
		"remove": func(r *rig) error { return r.f.Remove("/a") },
		"rename": func(r *rig) error { return r.f.Rename("/d/b", "/a") }, // what was there is gone as by Remove
	} {
		r := some(t)
		done(t, lose(r))
		r.reads(t, 1, 9, "abcdef")
		r.writes(t, 2, strings.Repeat("x", 200))
		r.told(t, 3, api.MMake, 0, 200)
		done(t, r.x.Cut(3, 129))
		r.writes(t, 4, "+")
		done(t, r.x.Seek(3, 128))
		r.reads(t, 3, 9, "x+")
		if name == "remove" { // another one, by that name
			r.opens(t, "/a", api.MMake, 5)
			r.reads(t, 5, 9, "")
			done(t, r.x.Close(5))
			done(t, r.f.Remove("/a"))
		}
		was, err := r.f.Room()
		done(t, err)
		for _, h := range []int{3, 1, 4} {
			done(t, r.x.Close(h))
			r.told(t, 2, api.MWrite, 200, 130)
			if now, err := r.f.Room(); now != was || err != nil {
				t.Error(name, h, now, err)
			}
			done(t, r.f.Check())
		}
		done(t, r.x.Close(2))
		now, err := r.f.Room()
		if now.Free != was.Free+2 || now.Inodes != was.Inodes+1 || err != nil {
			t.Error(name, was, now, err)
		}
		done(t, r.f.Check())
	}
}

// TestMemory: what is handed in is neither changed nor kept, and what is answered is new.
func TestMemory(t *testing.T) { // DOC.md, rule 3
	r := some(t)
	long := []byte("XYZspare")
	b := long[:3]
	done(t, r.x.Write(2, b))
	done(t, r.x.Write(4, b))
	if string(long) != "XYZspare" {
		t.Error(string(long))
	}
	clear(long)
	r.has(t, "/a", "XYZdefXYZ")
	one, err := r.x.Read(1, 4)
	done(t, err)
	clear(one[:cap(one)])
	done(t, r.x.Seek(1, 0))
	r.reads(t, 1, 9, "XYZdefXYZ")
	r.has(t, "/a", "XYZdefXYZ")
}

// TestLoosened: a file that another one made loose is told as fs tells it, and nothing is changed.
func TestLoosened(t *testing.T) { // 12.1, 12.3
	r := made(t, 256, 20, 5)
	r.opens(t, "/a", api.MMake, 1)
	r.opens(t, "/b", api.MAppend, 2)
	for h, id := range map[int]int{1: 2, 2: 3} {
		name := fmt.Sprint(h)
		done(t, r.f.Loose(id))
		r.same(t, func() {
			_, err := r.x.Read(h, 1)
			tells(t, err, name, api.ErrHeld)
			_, err = r.x.Read(h, -1) // what is wrong here is told ahead of it
			tells(t, err, name, api.ErrArg)
			tells(t, r.x.Write(h, []byte("x")), name, api.ErrHeld)
			tells(t, r.x.Cut(h, 1), name, api.ErrHeld)
			tells(t, r.x.Close(h), name, api.ErrHeld)
			y, err := r.x.Tell(h)
			if y != (api.Handle{}) {
				t.Error(y)
			}
			tells(t, err, name, api.ErrHeld)
		})
	}
}

// TestText: what fs told is wrapped, not told anew.
func TestText(t *testing.T) { // 12.1; chapter 1
	r := some(t)
	_, err := r.x.Open("/q/n", api.MMake)
	if s := fault.Text(err); !strings.HasPrefix(s, "file /q/n: make /q/n: ") {
		t.Error(s)
	}
	_, err = r.x.Open("/d", api.MMake)
	if s := fault.Text(err); !strings.HasPrefix(s, "file /d: hold /d: ") {
		t.Error(s)
	}
	if s := fault.Text(r.x.Cut(2, -1)); !strings.HasPrefix(s, "file 2: cut 2: ") {
		t.Error(s)
	}
	if s := fault.Text(r.x.Close(9)); s != "file 9: error 19" {
		t.Error(s)
	}
}

// TestDead: on a dead disk each call that needs it tells ErrDead, and none panics.
func TestDead(t *testing.T) { // 12.1, 12.3; 11.6
	r := some(t)
	r.d.Fuse(0)
	tells(t, r.x.Write(2, []byte("x")), "2", api.ErrDead)
	for range 2 {
		for h := 1; h <= 4; h++ {
			name := fmt.Sprint(h)
			b, err := r.x.Read(h, 1)
			if len(b) != 0 {
				t.Error(b)
			}
			tells(t, err, name, api.ErrDead)
			y, err := r.x.Tell(h)
			if y != (api.Handle{}) {
				t.Error(y)
			}
			tells(t, err, name, api.ErrDead)
			if h > 1 {
				tells(t, r.x.Write(h, []byte("x")), name, api.ErrDead)
				tells(t, r.x.Cut(h, 1), name, api.ErrDead)
			}
			tells(t, r.x.Close(h), name, api.ErrDead)
			r.refuses(t, "/a", h, api.ErrDead)
			r.refuses(t, "/fresh", h, api.ErrDead)
		}
		tells(t, r.x.Write(1, nil), "1", api.ErrState) // what is wrong here is told ahead of it
		tells(t, r.x.Close(5), "5", api.ErrHandle)
		r.refuses(t, "/a", 0, api.ErrArg)
		r.d.Power()
	}
	f, err := fs.Open(r.d)
	done(t, err)
	x, err := New(f)
	done(t, err)
	r = &rig{d: r.d, f: f, x: x}
	r.opens(t, "/a", api.MRead, 1)
	r.reads(t, 1, 9, "abcdef")
}

// TestEachDeath: at whichever write the disk dies, the tree is as behind some step, and no place has moved.
func TestEachDeath(t *testing.T) { // W2; DOC.md, rule 8
	long := bytes.Repeat([]byte("long"), 500)
	for i, do := range []func(x *Files) error{
		func(x *Files) error { _, err := x.Open("/n", api.MMake); return err },
		func(x *Files) error { _, err := x.Open("/d/n", api.MAppend); return err },
		func(x *Files) error { return x.Write(2, long) },
		func(x *Files) error { return x.Write(4, long) },
		func(x *Files) error { return x.Cut(3, 1500) },
		func(x *Files) error { return x.Cut(4, 1) },
	} {
		r := some(t)
		r.reopen(t) // nothing is held, as behind a death
		was := r.tree(t, "")
		r = some(t)
		writes := r.d.Writes()
		done(t, do(r.x))
		writes = r.d.Writes() - writes
		r.reopen(t)
		will := r.tree(t, "")
		if writes == 0 || was == will {
			t.Fatal(i, writes)
		}
		for n := range writes {
			r := some(t)
			r.d.Fuse(n)
			err := do(r.x)
			if fault.Num(err) != api.ErrDead {
				t.Fatal(i, n, fault.Text(err))
			}
			for _, o := range r.x.open[:4] {
				if o.at != 0 {
					t.Error(i, n, o)
				}
			}
			if r.x.Len() != 4 {
				t.Error(i, n, r.x.Len())
			}
			r.d.Power()
			r.reopen(t)
			if now := r.tree(t, ""); now != was && now != will {
				t.Fatal(i, n, now)
			}
			done(t, r.f.Check())
		}
	}
}

// TestCloseDeath: a disk that dies within the Close of a file without a name leaves nothing of it.
func TestCloseDeath(t *testing.T) { // W2, W3
	last := func() *rig {
		r := some(t)
		for h := 1; h <= 3; h++ {
			done(t, r.x.Close(h))
		}
		done(t, r.f.Remove("/a"))
		return r
	}
	r := last()
	writes := r.d.Writes()
	done(t, r.x.Close(4))
	writes = r.d.Writes() - writes
	if writes == 0 {
		t.Fatal("nothing is written")
	}
	for n := range writes {
		r := last()
		r.d.Fuse(n)
		tells(t, r.x.Close(4), "4", api.ErrDead)
		r.d.Power()
		r.reopen(t)
		if s := r.tree(t, ""); s != ` /d {true 1 0} /d/b {false 1 0} "b"` {
			t.Fatal(n, s)
		}
		done(t, r.f.Check())
	}
}

// reopen opens the tree anew, without handles.
func (r *rig) reopen(t testing.TB) {
	t.Helper()
	f, err := fs.Open(r.d)
	done(t, err)
	r.f = f
	r.x, err = New(f)
	done(t, err)
}
