package fs

import (
	"bytes"
	"cmp"
	"errors"
	"fmt"
	"math"
	"slices"
	"strconv"
	"strings"
	"testing"

	"credenza/api"
	"credenza/disk"
	"credenza/fault"
)

// rig is a tree and the disk it is on.
type rig struct {
	d *disk.Disk
	f *FS
}

// made is an empty tree on a new disk.
func made(t testing.TB, blocks, inodes, reserve int) *rig {
	t.Helper()
	d, err := disk.New(blocks)
	done(t, err)
	f, err := Format(d, inodes, reserve)
	done(t, err)
	return &rig{d: d, f: f}
}

// lay makes what the texts say: a directory of what ends with a slash; else a file, whose bytes are its path's.
func (r *rig) lay(t testing.TB, paths ...string) *rig {
	t.Helper()
	for _, p := range paths {
		if s, ok := strings.CutSuffix(p, "/"); ok {
			done(t, r.f.Mkdir(s))
		} else {
			done(t, r.f.Put(p, []byte(p)))
		}
	}
	return r
}

// open opens the tree anew.
func (r *rig) open(t testing.TB) {
	t.Helper()
	f, err := Open(r.d)
	done(t, err)
	r.f = f
}

// done looks whether nothing went wrong.
func done(t testing.TB, err error) {
	t.Helper()
	if err != nil {
		t.Fatal(fault.Text(err))
	}
}

// is says whether err is a Fault of op and name, with that number at the bottom.
func is(err error, op, name string, n api.Errno) bool {
	f, ok := err.(*api.Fault)
	return ok && f.Op == op && f.Name == name && errors.Is(err, n) && fault.Num(err) == n
}

// tells looks whether err is a Fault of op and name, with that number at the bottom.
func tells(t testing.TB, err error, op, name string, n api.Errno) {
	t.Helper()
	if !is(err, op, name, n) {
		t.Errorf("%q, not error %d of %s %q", fault.Text(err), n, op, name)
	}
}

// tree is all that is in the directory at path, in one text.
func tree(t testing.TB, f *FS, path string) string {
	t.Helper()
	l, err := f.List(path)
	done(t, err)
	if !slices.IsSorted(l) {
		t.Fatal(l)
	}
	all := ""
	for _, s := range l {
		p := strings.TrimSuffix(path, "/") + "/" + s
		x, err := f.Stat(p)
		done(t, err)
		if x.Dir {
			all += p + "/ " + tree(t, f, p)
			continue
		}
		b, err := f.Get(p)
		done(t, err)
		if x.Size != len(b) {
			t.Fatal(p, x, len(b))
		}
		all += fmt.Sprintf("%s=%q ", p, b)
	}
	return all
}

// has looks whether the tree is just what the text says, in order, and is so behind Open too.
func (r *rig) has(t testing.TB, want string) {
	t.Helper()
	if s := tree(t, r.f, "/"); s != want {
		t.Fatalf("%s, not %s", s, want)
	}
	done(t, r.f.Check())
	again, err := Open(r.d.Copy())
	done(t, err)
	if s := tree(t, again, "/"); s != want {
		t.Fatalf("%s, not %s", s, want)
	}
	done(t, again.Check())
}

// left looks how many blocks and inodes are free.
func (r *rig) left(t testing.TB, blocks, inodes int) {
	t.Helper()
	x, err := r.f.Room()
	if x.Free != blocks || x.Inodes != inodes || err != nil {
		t.Fatal(x, err, blocks, inodes)
	}
}

// image is all that is on the disk.
func image(t testing.TB, d *disk.Disk) [][]byte {
	t.Helper()
	d = d.Copy()
	d.Power()
	var l [][]byte
	for i := range d.Blocks() {
		b, err := d.Read(i)
		done(t, err)
		l = append(l, b)
	}
	return l
}

// some are n bytes that hang on seed.
func some(seed, n int) []byte {
	b := make([]byte, n)
	for i := range b {
		b[i] = byte(seed + i*7 + i/128*31)
	}
	return b
}

// dirs is the path of n directories, one in the other, each made.
func (r *rig) dirs(t testing.TB, n int) string {
	t.Helper()
	path := ""
	for i := range n {
		path += "/" + strconv.Itoa(i)
		done(t, r.f.Mkdir(path))
	}
	return path
}

// wrongPaths are no paths.
func wrongPaths() []string {
	return []string{"", "a", "//", "/a/", "/a//b", "/.", "/..", "/a/../b", "/a b", "/\xff", "/a\x00", "/é", "/" + strings.Repeat("n", 28), "/1/2/3/4/5/6/7", "a/b", " /a", "/a/ "}
}

func TestExample(t *testing.T) { // chapter 11, Examples
	r := made(t, 256, 20, 5)
	x := some(3, 700)
	done(t, r.f.Put("/a", x))
	done(t, r.f.Rename("/a", "/b"))
	if b, err := r.f.Get("/b"); !bytes.Equal(b, x) || err != nil {
		t.Error(b, err)
	}
}

func TestFormatWrong(t *testing.T) { // 11.1
	f, err := Format(nil, 20, 5)
	if f != nil {
		t.Error(f)
	}
	tells(t, err, "format", "", api.ErrArg)
	for _, x := range []struct{ blocks, inodes, reserve int }{
		{16, 8, 0}, {127, 8, 0}, {128, 7, 0}, {128, 24, 0}, {256, 201, 0}, {256, 0, 0}, {256, -1, 0}, {256, math.MinInt, 0}, {256, math.MaxInt, 0},
		{256, 20, -1}, {256, 20, math.MinInt}, {256, 20, 65}, {256, 20, math.MaxInt}, {128, 8, 16}, {128, 23, 1}, {128, 20, 4},
	} {
		d, err := disk.New(x.blocks)
		done(t, err)
		d.Fuse(0) // told ahead of what the disk tells
		f, err := Format(d, x.inodes, x.reserve)
		if f != nil {
			t.Error(x)
		}
		tells(t, err, "format", "", api.ErrArg)
	}
	r := made(t, 256, 20, 5).lay(t, "/a") // what is there stays
	_, err = Format(r.d, 20, 65)
	tells(t, err, "format", "", api.ErrArg)
	r.has(t, `/a="/a" `)
}

// TestFormat: the empty tree of every shape, also where another one was.
func TestFormat(t *testing.T) { // 11.1, 11.4
	for _, x := range []struct{ blocks, inodes, reserve, data int }{
		{128, 8, 0, 23}, {128, 8, 15, 23}, {128, 23, 0, 8}, {128, 22, 1, 9}, {256, 20, 64, 139}, {1024, 200, 5, 727}, {1025, 200, 64, 727}, {2048, 200, 64, 1750}, {2048, 8, 0, 1942},
	} {
		d, err := disk.New(x.blocks)
		done(t, err)
		for i := range x.blocks {
			done(t, d.Write(i, bytes.Repeat([]byte{0xff}, 128)))
		}
		for range 2 {
			f, err := Format(d, x.inodes, x.reserve)
			done(t, err)
			r := &rig{d: d, f: f}
			r.has(t, "")
			want := api.Room{Free: x.data, Reserve: x.reserve, Inodes: x.inodes - 1, Data: x.data}
			if now, err := f.Room(); now != want || err != nil {
				t.Error(now, err, want)
			}
			r.open(t)
			if now, err := r.f.Room(); now != want || err != nil {
				t.Error(now, err, want)
			}
			r.lay(t, "/d/", "/d/e", "/f")
			id, err := r.f.Hold("/d/e")
			if id != 3 || err != nil { // the root is 1, the directory 2
				t.Error(id, err)
			}
			done(t, r.f.Remove("/d/e"))
		}
	}
}

func TestOpenNone(t *testing.T) { // 11.1
	f, err := Open(nil)
	if f != nil {
		t.Error(f)
	}
	tells(t, err, "open", "", api.ErrForm)
	for _, blocks := range []int{16, 127, 128, 2048} {
		d, err := disk.New(blocks)
		done(t, err)
		for _, c := range []byte{0, 1, 'c', 0xff} {
			for i := range blocks {
				done(t, d.Write(i, bytes.Repeat([]byte{c}, 128)))
			}
			was := image(t, d)
			f, err := Open(d)
			if f != nil {
				t.Error(blocks, c)
			}
			tells(t, err, "open", "", api.ErrForm)
			if !slices.EqualFunc(image(t, d), was, bytes.Equal) {
				t.Error(blocks, c)
			}
		}
	}
}

func TestWalk(t *testing.T) { // 11.2
	r := made(t, 256, 20, 5).lay(t, "/a", "/d/", "/d/b", "/d/e/")
	get := func(p string) error { b, err := r.f.Get(p); zero(t, len(b) == 0); return err }
	list := func(p string) error { l, err := r.f.List(p); zero(t, len(l) == 0); return err }
	stat := func(p string) error { x, err := r.f.Stat(p); zero(t, x == api.Info{}); return err }
	hold := func(p string) error { id, err := r.f.Hold(p); zero(t, id == 0); return err }
	remove := func(p string) error { return r.f.Remove(p) }
	rename := func(p string) error { return r.f.Rename(p, "/z") }
	for op, do := range map[string]func(p string) error{"get": get, "list": list, "stat": stat, "hold": hold, "remove": remove, "rename": rename} {
		for _, p := range wrongPaths() {
			tells(t, do(p), op, p, api.ErrName)
		}
		for _, p := range []string{"/q", "/d/q", "/d/e/q", "/q/q", "/d/e/q/q/q/q", "/A"} {
			tells(t, do(p), op, p, api.ErrNone)
		}
		for _, p := range []string{"/a/b", "/a/b/c", "/d/b/x", "/a/b/c/d/e/f"} {
			tells(t, do(p), op, p, api.ErrNotDir)
		}
	}
	r.has(t, `/a="/a" /d/ /d/b="/d/b" /d/e/ `)
}

// zero looks whether nothing is told beside an error.
func zero(t testing.TB, ok bool) {
	t.Helper()
	if !ok {
		t.Error("something is told beside an error")
	}
}

// TestMake: files and directories, by Make and Mkdir alike.
func TestMake(t *testing.T) { // 11.2
	for op, c := range map[string]func(f *FS, p string) error{"make": (*FS).Make, "mkdir": (*FS).Mkdir} {
		r := made(t, 256, 20, 5).lay(t, "/a", "/d/", "/d/b")
		for _, p := range wrongPaths() {
			tells(t, c(r.f, p), op, p, api.ErrName)
		}
		for p, n := range map[string]api.Errno{"/": api.ErrExists, "/a": api.ErrExists, "/d": api.ErrExists, "/d/b": api.ErrExists, "/a/x": api.ErrNotDir, "/a/x/y": api.ErrNotDir, "/q/x": api.ErrNone, "/d/b/x": api.ErrNotDir, "/d/q/x": api.ErrNone} {
			tells(t, c(r.f, p), op, p, n)
		}
		r.left(t, 256-96-20-1-4, 16) // a block each of the root, /d, and what both files have
		done(t, c(r.f, "/d/x"))
		done(t, c(r.f, "/y"))
		x, err := r.f.Stat("/d/x")
		if x != (api.Info{Dir: op == "mkdir"}) || err != nil {
			t.Error(x, err)
		}
		r.left(t, 256-96-20-1-4, 14)
		end := map[string]string{"make": `/a="/a" /d/ /d/b="/d/b" /d/x="" /y="" `, "mkdir": `/a="/a" /d/ /d/b="/d/b" /d/x/ /y/ `}
		r.has(t, end[op])
	}
}

func TestDepth(t *testing.T) { // 11.2
	r := made(t, 256, 20, 0)
	deep := r.dirs(t, 5)
	done(t, r.f.Put(deep+"/f", []byte("x")))
	done(t, r.f.Mkdir(deep+"/d"))
	tells(t, r.f.Make(deep+"/d/e"), "make", deep+"/d/e", api.ErrName)
	if b, err := r.f.Get(deep + "/f"); string(b) != "x" || err != nil {
		t.Error(b, err)
	}
	if l, err := r.f.List(deep + "/d"); len(l) != 0 || err != nil {
		t.Error(l, err)
	}
	done(t, r.f.Check())
	r.open(t)
	done(t, r.f.Check())
}

// TestMany: 120 names and no more, in the root and in another directory, by every call that makes one.
func TestMany(t *testing.T) { // 11.2, 11.3
	for _, up := range []string{"", "/d"} {
		r := made(t, 2048, 200, 0)
		if up != "" {
			r.lay(t, "/d/", "/e/", "/e/f")
		}
		for i := range 120 {
			done(t, r.f.Make(fmt.Sprint(up, "/n", i)))
		}
		if x, err := r.f.Stat(cmp.Or(up, "/")); x != (api.Info{Dir: true, Size: 120}) || err != nil {
			t.Error(x, err)
		}
		tells(t, r.f.Make(up+"/x"), "make", up+"/x", api.ErrMany)
		tells(t, r.f.Mkdir(up+"/x"), "mkdir", up+"/x", api.ErrMany)
		tells(t, r.f.Put(up+"/x", nil), "put", up+"/x", api.ErrMany)
		tells(t, r.f.Keep(up+"/x", nil), "keep", up+"/x", api.ErrMany)
		tells(t, r.f.Make(up+"/n7"), "make", up+"/n7", api.ErrExists)
		done(t, r.f.Put(up+"/n7", []byte("x"))) // one that is there
		done(t, r.f.Rename(up+"/n7", up+"/x"))  // within the directory
		done(t, r.f.Rename(up+"/x", up+"/n8"))
		done(t, r.f.Rename(up+"/n8", up+"/n7"))
		done(t, r.f.Make(up+"/n8"))
		if up != "" {
			tells(t, r.f.Rename("/e/f", "/d/x"), "rename", "/e/f", api.ErrMany)
			tells(t, r.f.Rename("/e", "/d/x"), "rename", "/e", api.ErrMany)
			done(t, r.f.Rename("/e/f", "/d/n9")) // what is there gives its name
		}
		done(t, r.f.Check())
		r.open(t)
		done(t, r.f.Check())
		done(t, r.f.Remove(up+"/n0"))
		done(t, r.f.Make(up+"/x"))
	}
}

func TestInodes(t *testing.T) { // 11.2
	r := made(t, 256, 8, 0)
	for i := range 7 {
		done(t, r.f.Make(fmt.Sprint("/n", i)))
	}
	r.left(t, 256-96-8-1-2, 0)
	tells(t, r.f.Make("/x"), "make", "/x", api.ErrInodes)
	tells(t, r.f.Mkdir("/x"), "mkdir", "/x", api.ErrInodes)
	tells(t, r.f.Put("/x", nil), "put", "/x", api.ErrInodes)
	tells(t, r.f.Keep("/x", nil), "keep", "/x", api.ErrInodes)
	done(t, r.f.Put("/n0", []byte("x"))) // one that is there
	done(t, r.f.Rename("/n0", "/x"))
	id, err := r.f.Hold("/n3")
	if id != 5 || err != nil {
		t.Error(id, err)
	}
	done(t, r.f.Remove("/n3"))
	tells(t, r.f.Make("/y"), "make", "/y", api.ErrInodes) // it is there yet
	done(t, r.f.Loose(id))
	done(t, r.f.Make("/y"))
	done(t, r.f.Remove("/n5"))
	done(t, r.f.Remove("/n1"))
	done(t, r.f.Make("/z")) // the least that is free
	if id, err := r.f.Hold("/z"); id != 3 || err != nil {
		t.Error(id, err)
	}
}

// TestOrder: where several errors apply, the first of the sentence is told.
func TestOrder(t *testing.T) { // 11.2, 11.3; DOC.md, rule 5
	r := made(t, 512, 132, 0)
	r.lay(t, "/d/", "/f", "/g/", "/g/h")
	for i := range 120 {
		done(t, r.f.Make(fmt.Sprint("/d/n", i)))
	}
	for i := 0; ; i++ {
		if err := r.f.Make(fmt.Sprint("/g/m", i)); err != nil {
			tells(t, err, "make", fmt.Sprint("/g/m", i), api.ErrInodes)
			break
		}
	}
	for i := 0; ; i++ { // no inode and no block is free
		x, err := r.f.Room()
		done(t, err)
		if x.Free == 0 {
			break
		}
		p := fmt.Sprint("/d/n", i)
		done(t, r.f.Put(p, make([]byte, min(x.Free, 8)*128)))
	}
	big := make([]byte, 4001)
	one := []byte("x")
	for _, x := range []struct {
		op, path string
		b        []byte
		n        api.Errno
	}{
		{"put", "/d/x", one, api.ErrMany}, {"put", "/g/x", one, api.ErrInodes}, {"put", "/g/h/x", one, api.ErrNotDir}, {"put", "/d", one, api.ErrDir}, {"put", "/q/x", one, api.ErrNone},
		{"put", "/d/x", big, api.ErrBig}, {"put", "/d", big, api.ErrBig}, {"put", "/f/x", big, api.ErrBig}, {"put", "/", big, api.ErrDir}, {"put", "x", big, api.ErrName},
		{"put", "/d/n119", one, api.ErrFull}, {"put", "/d/n119", nil, api.OK},
	} {
		for op, do := range map[string]func(p string, b []byte) error{"put": r.f.Put, "keep": r.f.Keep} {
			if err := do(x.path, x.b); x.n == api.OK && err != nil || x.n != api.OK && !is(err, op, x.path, x.n) {
				t.Error(op, x.path, fault.Text(err), x.n)
			}
		}
	}
	tells(t, r.f.Make("/d/x"), "make", "/d/x", api.ErrMany)
	tells(t, r.f.Make("/g/x"), "make", "/g/x", api.ErrInodes)
	tells(t, r.f.Rename("/f", "/d/x"), "rename", "/f", api.ErrMany)
	for _, x := range []struct {
		a, b string
		n    api.Errno
	}{
		{"x", "y", api.ErrName}, {"/", "y", api.ErrName}, {"x", "/", api.ErrName}, {"/q", "y", api.ErrName}, {"/", "/", api.ErrArg}, {"/q", "/", api.ErrArg}, {"/", "/q/x", api.ErrArg},
		{"/q", "/q/x", api.ErrNone}, {"/q", "/f/x", api.ErrNone}, {"/f/x", "/q/x", api.ErrNotDir}, {"/f", "/f/x/y", api.ErrLoop}, {"/g", "/g/h/x/y/z/1", api.ErrLoop}, {"/g", "/q/2/3/4/5/6", api.ErrName}, {"/g", "/f/2/3/4/5/6", api.ErrName}, {"/g", "/q/2/3/4/5", api.ErrNone}, {"/g", "/f/2/3/4/5", api.ErrNotDir}, {"/f", "/q/2/3/4/5/6", api.ErrNone},
	} {
		tells(t, r.f.Rename(x.a, x.b), "rename", x.a, x.n)
	}
	done(t, r.f.Check())
}

func TestRemove(t *testing.T) { // 11.2
	r := made(t, 256, 20, 5).lay(t, "/a", "/d/", "/d/b", "/d/e/")
	done(t, r.f.Put("/big", some(1, 4000)))
	r.left(t, 139-1-1-1-1-33, 14) // the root, /d, /a, /d/b, /big
	tells(t, r.f.Remove("/"), "remove", "/", api.ErrArg)
	tells(t, r.f.Remove("/d"), "remove", "/d", api.ErrNotEmpty)
	done(t, r.f.Remove("/big"))
	r.left(t, 135, 15)
	tells(t, r.f.Remove("/big"), "remove", "/big", api.ErrNone)
	done(t, r.f.Remove("/d/e"))
	tells(t, r.f.Remove("/d"), "remove", "/d", api.ErrNotEmpty)
	done(t, r.f.Remove("/d/b"))
	r.left(t, 137, 17)
	r.has(t, `/a="/a" /d/ `)
	done(t, r.f.Remove("/d"))
	done(t, r.f.Remove("/a"))
	r.left(t, 139, 19)
	r.has(t, "")
}

// TestPut: a file has just what was put last, whatever it had, and just the blocks for it.
func TestPut(t *testing.T) { // 11.2
	r := made(t, 256, 20, 0)
	sizes := []int{0, 1, 127, 128, 129, 1023, 1024, 1025, 1152, 1153, 2000, 3999, 4000}
	for i, was := range sizes {
		for k, now := range sizes {
			done(t, r.f.Put("/a", some(i, was)))
			done(t, []func(string, []byte) error{r.f.Put, r.f.Keep}[k%2]("/a", some(k+50, now)))
			if b, err := r.f.Get("/a"); !bytes.Equal(b, some(k+50, now)) || err != nil {
				t.Fatal(was, now, len(b), err)
			}
			if x, err := r.f.Stat("/a"); x != (api.Info{Size: now}) || err != nil {
				t.Fatal(x, err)
			}
			r.left(t, 139-1-had(now), 18)
		}
		done(t, r.f.Check())
		r.open(t)
	}
	tells(t, r.f.Put("/a", some(1, 4001)), "put", "/a", api.ErrBig)
	tells(t, r.f.Keep("/b", some(1, 4001)), "keep", "/b", api.ErrBig)
	if b, err := r.f.Get("/a"); !bytes.Equal(b, some(len(sizes)+49, 4000)) || err != nil {
		t.Error(len(b), err)
	}
}

// had is how many blocks so many bytes have, as the chapter of budget says it.
func had(n int) int {
	blocks := n / 128
	if n%128 > 0 {
		blocks++
	}
	if blocks > 8 {
		blocks++
	}
	return blocks
}

func TestLook(t *testing.T) { // 11.2
	r := made(t, 256, 20, 5).lay(t, "/b", "/a", "/d/", "/d/z", "/d/A", "/d/a")
	for _, p := range []string{"/", "/d"} {
		_, err := r.f.Get(p)
		tells(t, err, "get", p, api.ErrDir)
		_, err = r.f.Hold(p)
		tells(t, err, "hold", p, api.ErrDir)
	}
	for _, p := range []string{"/a", "/d/z"} {
		_, err := r.f.List(p)
		tells(t, err, "list", p, api.ErrNotDir)
	}
	for p, want := range map[string]string{"/": "a b d", "/d": "A a z"} {
		if l, err := r.f.List(p); strings.Join(l, " ") != want || err != nil {
			t.Error(p, l, err)
		}
	}
	for p, want := range map[string]api.Info{"/": {Dir: true, Size: 3}, "/d": {Dir: true, Size: 3}, "/d/z": {Size: 4}} {
		if x, err := r.f.Stat(p); x != want || err != nil {
			t.Error(p, x, err)
		}
	}
}

func TestRename(t *testing.T) { // 11.3
	r := made(t, 256, 30, 0).lay(t, "/a", "/b", "/d/", "/d/e/", "/d/e/f", "/g/", "/g/a")
	steps := []struct {
		a, b string
		n    api.Errno
	}{
		{"/a", "/a", 0}, {"/d", "/d", 0}, {"/d/e/f", "/d/e/f", 0}, {"/q", "/q", api.ErrNone}, {"/a/b", "/a/b", api.ErrNotDir},
		{"/d", "/d/x", api.ErrLoop}, {"/d", "/d/e/x", api.ErrLoop}, {"/a", "/a/b", api.ErrLoop},
		{"/a", "/d", api.ErrDir}, {"/a", "/g", api.ErrDir}, {"/d", "/a", api.ErrExists}, {"/d", "/g", api.ErrExists}, {"/d/e", "/d", api.ErrExists}, {"/d/e/f", "/d/e", api.ErrDir}, {"/d/e", "/g/a", api.ErrExists},
		{"/a", "/b/x", api.ErrNotDir}, {"/a", "/b/x/y", api.ErrNotDir}, {"/a", "/q/x", api.ErrNone},
	}
	was := tree(t, r.f, "/")
	for _, x := range steps {
		if err := r.f.Rename(x.a, x.b); x.n == 0 && err != nil || x.n != 0 && !is(err, "rename", x.a, x.n) {
			t.Error(x, fault.Text(err))
		}
		r.has(t, was)
	}
	for _, x := range [][3]string{
		{"/a", "/c", `/b="/b" /c="/a" /d/ /d/e/ /d/e/f="/d/e/f" /g/ /g/a="/g/a" `},
		{"/c", "/b", `/b="/a" /d/ /d/e/ /d/e/f="/d/e/f" /g/ /g/a="/g/a" `},
		{"/b", "/g/a", `/d/ /d/e/ /d/e/f="/d/e/f" /g/ /g/a="/a" `},
		{"/g/a", "/d/e/a", `/d/ /d/e/ /d/e/a="/a" /d/e/f="/d/e/f" /g/ `},
		{"/d/e/f", "/d/e/a", `/d/ /d/e/ /d/e/a="/d/e/f" /g/ `},
		{"/d/e", "/e", `/d/ /e/ /e/a="/d/e/f" /g/ `},
		{"/e", "/g/e", `/d/ /g/ /g/e/ /g/e/a="/d/e/f" `},
		{"/g", "/d/e", `/d/ /d/e/ /d/e/e/ /d/e/e/a="/d/e/f" `},
		{"/d", "/a", `/a/ /a/e/ /a/e/e/ /a/e/e/a="/d/e/f" `},
		{"/a/e/e/a", "/z", `/a/ /a/e/ /a/e/e/ /z="/d/e/f" `},
	} {
		done(t, r.f.Rename(x[0], x[1]))
		r.has(t, x[2])
	}
	r.left(t, 256-96-30-1-4, 25)
}

// TestRenameDepth: what is in a directory has at most 6 names behind it too.
func TestRenameDepth(t *testing.T) { // 11.3
	for tall := range 6 { // how far below /x the lowest thing is
		for deep := range 6 { // where /x goes to
			for _, kind := range []string{"", "/"} {
				r := made(t, 256, 30, 0)
				path := r.dirs(t, deep)
				below := "/x"
				for i := range tall {
					done(t, r.f.Mkdir(below))
					below += "/" + strconv.Itoa(i)
				}
				r.lay(t, below+kind)
				was := tree(t, r.f, "/")
				err := r.f.Rename("/x", path+"/y")
				if deep+1+tall > 6 {
					tells(t, err, "rename", "/x", api.ErrName)
					r.has(t, was)
					continue
				}
				done(t, err)
				if _, err := r.f.Stat(path + "/y" + strings.TrimPrefix(below, "/x")); err != nil {
					t.Error(tall, deep, err)
				}
				done(t, r.f.Check())
				r.open(t)
			}
		}
	}
}

// TestRenameGone: what was b is gone, and its blocks are free; but not while it is held.
func TestRenameGone(t *testing.T) { // 11.3, 11.5
	for _, b := range []string{"/b", "/d/b"} {
		r := made(t, 256, 20, 0).lay(t, "/d/", "/d/x")
		done(t, r.f.Put("/a", some(1, 300)))
		done(t, r.f.Put(b, some(2, 4000)))
		x, err := r.f.Room()
		done(t, err)
		id, err := r.f.Hold(b)
		done(t, err)
		done(t, r.f.Rename("/a", b))
		now, err := r.f.Get(b)
		if !bytes.Equal(now, some(1, 300)) || err != nil {
			t.Error(len(now), err)
		}
		if old, err := r.f.Read(id, 0, 4000); !bytes.Equal(old, some(2, 4000)) || err != nil {
			t.Error(len(old), err)
		}
		r.left(t, x.Free, x.Inodes)
		done(t, r.f.Check())
		done(t, r.f.Loose(id))
		r.left(t, x.Free+33, x.Inodes+1)
		done(t, r.f.Put("/a", nil))
		done(t, r.f.Rename(b, "/a"))
		r.left(t, x.Free+33, x.Inodes+1)
		done(t, r.f.Check())
	}
}

func TestMemory(t *testing.T) { // DOC.md, rules 1 and 3
	r := made(t, 256, 20, 0)
	b := some(1, 300)
	room := append(b[:200:300], 9)
	done(t, r.f.Put("/a", room[:200]))
	if !bytes.Equal(room[:200], some(1, 200)) || room[200] != 9 {
		t.Error("changed")
	}
	clear(room)
	if now, err := r.f.Get("/a"); !bytes.Equal(now, some(1, 200)) || err != nil {
		t.Error(now, err)
	}
	id, err := r.f.Hold("/a")
	done(t, err)
	part := []byte("abc")
	done(t, r.f.Write(id, 0, part))
	clear(part)
	for range 2 {
		one, err := r.f.Get("/a")
		done(t, err)
		two, err := r.f.Read(id, 0, 200)
		done(t, err)
		if want := append([]byte("abc"), some(1, 200)[3:]...); !bytes.Equal(one, want) || !bytes.Equal(two, want) {
			t.Error(one, two)
		}
		clear(one[:cap(one)])
		clear(two[:cap(two)])
		l, err := r.f.List("/")
		if len(l) != 1 || l[0] != "a" || err != nil {
			t.Error(l, err)
		}
		clear(l[:cap(l)])
	}
	for _, none := range [][]byte{nil, {}} {
		done(t, r.f.Put("/a", none))
		done(t, r.f.Write(id, 5, none))
		if b, err := r.f.Get("/a"); len(b) != 0 || err != nil {
			t.Error(b, err)
		}
	}
}
