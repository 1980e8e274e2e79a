package fs

import (
	"bytes"
	"fmt"
	"math/rand"
	"testing"

	"credenza/api"
	"credenza/dir"
	"credenza/disk"
	"credenza/fault"
)

// flaw is something that is not in order, done below the tree.
type flaw struct {
	what string
	do   func(t *testing.T, r *rig)
}

// into is the directory of inode id.
func (r *rig) into(t testing.TB, id int) *dir.Dir {
	t.Helper()
	d, err := dir.Of(r.f.t, id)
	done(t, err)
	return d
}

// block is the first block of inode id.
func (r *rig) block(t testing.TB, id int) int {
	t.Helper()
	l, err := r.f.t.Blocks(id)
	done(t, err)
	return l[0]
}

// home is the block of inode id itself.
func (r *rig) home(id int) int {
	return r.d.Blocks() - r.f.data - r.f.inodes + id - 1
}

// inode makes an inode of that kind.
func (r *rig) inode(t testing.TB, kind int) int {
	t.Helper()
	id, err := r.f.t.Make(kind)
	done(t, err)
	return id
}

// flaws are what Check names, and what else is no tree, on a tree with the root 1, /d 2, /d/e 3, /d/e/f 4, /a 5, /g 6.
func flaws() []flaw {
	return []flaw{
		{"a block is taken that nothing has", func(t *testing.T, r *rig) { _, err := r.f.m.Take(); done(t, err) }},
		{"a block is not taken though had", func(t *testing.T, r *rig) { done(t, r.f.m.Give(r.block(t, 5))) }},
		{"a block of a directory is not taken", func(t *testing.T, r *rig) { done(t, r.f.m.Give(r.block(t, 3))) }},
		{"a block is had by two", func(t *testing.T, r *rig) {
			b, err := r.f.c.Read(r.home(4))
			done(t, err)
			done(t, r.f.c.Write(r.home(5), 0, b))
			done(t, r.f.m.Give(r.block(t, 5)+1)) // the only other one
		}},
		{"a block is had by two, and none too few", func(t *testing.T, r *rig) {
			b, err := r.f.c.Read(r.home(4))
			done(t, err)
			done(t, r.f.t.Free(5))
			done(t, r.f.c.Write(r.home(5), 0, b))
		}},
		{"a directory has no name", func(t *testing.T, r *rig) { r.inode(t, 2) }},
		{"a directory has lost its name", func(t *testing.T, r *rig) { done(t, r.into(t, 1).Drop("g")) }},
		{"a directory has two names", func(t *testing.T, r *rig) { done(t, r.into(t, 1).Put("h", 6)) }},
		{"a directory has two names, one in itself", func(t *testing.T, r *rig) { done(t, r.into(t, 6).Put("h", 6)) }},
		{"the root has a name", func(t *testing.T, r *rig) { done(t, r.into(t, 6).Put("h", 1)) }},
		{"directories have each other alone", func(t *testing.T, r *rig) {
			done(t, r.into(t, 1).Drop("d"))
			done(t, r.into(t, 3).Put("d", 2))
		}},
		{"a file has two names", func(t *testing.T, r *rig) { done(t, r.into(t, 1).Put("h", 5)) }},
		{"a name is of no inode", func(t *testing.T, r *rig) { done(t, r.into(t, 1).Put("h", 21)) }},
		{"a name is of a free inode", func(t *testing.T, r *rig) { done(t, r.into(t, 1).Put("h", 9)) }},
		{"a size has more blocks", func(t *testing.T, r *rig) { done(t, r.f.c.Write(r.home(5), 1, []byte{1, 1})) }},
		{"a size has fewer blocks", func(t *testing.T, r *rig) { done(t, r.f.c.Write(r.home(5), 1, []byte{0, 0})) }},
		{"a directory's size is none", func(t *testing.T, r *rig) { done(t, r.f.t.Cut(3, 31)) }},
		{"a directory's bytes are no names", func(t *testing.T, r *rig) { done(t, r.f.t.Write(3, 1, []byte("/"))) }},
		{"a kind is none", func(t *testing.T, r *rig) { done(t, r.f.c.Write(r.home(5), 0, []byte{3})) }},
		{"a free inode has bytes", func(t *testing.T, r *rig) { done(t, r.f.c.Write(r.home(20), 5, []byte{1})) }},
		{"the root is free", func(t *testing.T, r *rig) { done(t, r.f.c.Write(r.home(1), 0, make([]byte, 128))) }},
		{"the root is a file", func(t *testing.T, r *rig) { done(t, r.f.c.Write(r.home(1), 0, []byte{1})) }},
		{"a file is a directory", func(t *testing.T, r *rig) { done(t, r.f.c.Write(r.home(5), 0, []byte{2})) }},
		{"a path has seven names", func(t *testing.T, r *rig) {
			up := 3
			for range 5 {
				id := r.inode(t, 2)
				done(t, r.into(t, up).Put("x", id))
				up = id
			}
		}},
	}
}

// TestFlaws: Check tells each flaw, and where one is there is no tree; all other calls end, and what they answer is no panic.
func TestFlaws(t *testing.T) { // 11.1, 11.5, W3, W9
	for _, x := range flaws() {
		r := made(t, 256, 20, 5).lay(t, "/d/", "/d/e/", "/d/e/f", "/a", "/g/")
		done(t, r.f.Check())
		x.do(t, r)
		done(t, r.f.c.Flush())
		if err := r.f.Check(); !is(err, "check", "", api.ErrForm) {
			t.Error(x.what, fault.Text(err))
		}
		was := image(t, r.d)
		f, err := Open(r.d)
		if f != nil || !is(err, "open", "", api.ErrForm) {
			t.Error(x.what, fault.Text(err))
		}
		for i, b := range image(t, r.d) {
			if !bytes.Equal(b, was[i]) {
				t.Error(x.what, i)
			}
		}
		for _, o := range everything() {
			_, err := o.do(r.f)
			if err != nil && !is(err, o.kind, o.name(), fault.Num(err)) {
				t.Error(x.what, o.kind, err)
			}
		}
	}
}

// TestNobody: a file that has no name and is not held is told by Check, and gone behind Open.
func TestNobody(t *testing.T) { // 11.1, 11.5
	r := made(t, 256, 20, 5).lay(t, "/a")
	id := r.inode(t, 1)
	done(t, r.f.t.Write(id, 0, some(1, 1500)))
	done(t, r.f.c.Flush())
	tells(t, r.f.Check(), "check", "", api.ErrForm)
	r.f.held[id] = holding{times: 1, nameless: true} // held it would be in order
	done(t, r.f.Check())
	r.open(t)
	r.has(t, `/a="/a" `)
	r.sound(t)
}

// TestRoot: the root is a directory, though nothing is in it.
func TestRoot(t *testing.T) { // 11.1, 11.5
	for _, kind := range []byte{0, 1} {
		r := made(t, 256, 20, 5)
		done(t, r.f.c.Write(r.home(1), 0, []byte{kind}))
		done(t, r.f.c.Flush())
		tells(t, r.f.Check(), "check", "", api.ErrForm)
		_, err := Open(r.d)
		tells(t, err, "open", "", api.ErrForm)
	}
}

// TestHalf: a step that goes wrong behind its first change has changed nothing, nor has it for the next step.
func TestHalf(t *testing.T) { // 11.6, W2; DOC.md, rule 8
	r := made(t, 256, 20, 5).lay(t, "/a", "/b", "/d/")
	done(t, r.f.m.Give(r.block(t, 3)))
	done(t, r.f.c.Flush())
	was := image(t, r.d)
	tells(t, r.f.Remove("/b"), "remove", "/b", api.ErrForm)
	tells(t, r.f.Rename("/a", "/b"), "rename", "/a", api.ErrForm)
	for i, b := range image(t, r.d) {
		if !bytes.Equal(b, was[i]) {
			t.Error(i)
		}
	}
	done(t, r.f.Make("/x"))
	if l, err := r.f.List("/"); fmt.Sprint(l) != "[a b d x]" || err != nil {
		t.Error(l, err)
	}
}

// TestLoops: a Rename of directories that have one another ends.
func TestLoops(t *testing.T) { // 11.6, W10
	r := made(t, 1024, 200, 5)
	ids := []int{}
	for i := range 4 {
		done(t, r.f.Mkdir(fmt.Sprint("/", i)))
		ids = append(ids, i+2)
	}
	for _, up := range ids {
		for i := range 100 {
			done(t, r.into(t, up).Put(fmt.Sprint("n", i), ids[i%4]))
			done(t, r.f.c.Flush())
		}
	}
	tells(t, r.f.Rename("/0", "/x"), "rename", "/0", api.ErrForm)
	tells(t, r.f.Check(), "check", "", api.ErrForm)
}

// TestHead: each byte of the head counts.
func TestHead(t *testing.T) { // 11.1, W9
	r := rich(t)
	for i := range 128 {
		for _, c := range []byte{1, 0x80, 0xff} {
			d := r.d.Copy()
			b, err := d.Read(headAt)
			done(t, err)
			b[i] ^= c
			done(t, d.Write(headAt, b))
			f, err := Open(d)
			if i == inodesByte || i == reserveByte { // another number of inodes, or another reserve, may be meant
				if err == nil && i == reserveByte && f.reserve != int(b[i]) || err != nil && !is(err, "open", "", api.ErrForm) || err == nil && i == inodesByte {
					t.Error(i, c, err)
				}
				continue
			}
			zero(t, f == nil)
			tells(t, err, "open", "", api.ErrForm)
		}
	}
}

// TestAnyBytes: whatever is on the disk, every call ends without a panic, and tells what is wrong as its own.
func TestAnyBytes(t *testing.T) { // 11.6, W9, W10
	g := rand.New(rand.NewSource(5))
	calls := everything()
	opened := 0
	for i := range 1000 {
		r := rich(t)
		for range 1 + g.Intn(4) {
			spoil(t, r.d, g, i%2 == 0)
		}
		live := r.f // a tree whose disk was changed below it
		f, err := Open(r.d.Copy())
		if err != nil {
			tells(t, err, "open", "", api.ErrForm)
			f = live
		} else {
			opened++
			done(t, f.Check())
		}
		for _, x := range []*FS{f, live} {
			for range 20 {
				o := calls[g.Intn(len(calls))]
				s, err := o.do(x)
				if err != nil && (!is(err, o.kind, o.name(), fault.Num(err)) || s != o.nothing()) {
					t.Fatal(i, o.kind, s, err)
				}
			}
		}
	}
	if opened < 50 || opened > 950 {
		t.Error(opened)
	}
}

// spoil changes some bytes of a block behind the journal's, mostly of an inode or of bits.
func spoil(t *testing.T, d *disk.Disk, g *rand.Rand, one bool) {
	t.Helper()
	no := 96 + g.Intn(60)
	b, err := d.Read(no)
	done(t, err)
	at := g.Intn(40)
	b[at] = byte(g.Intn(256))
	if !one {
		for i := range b[at:] {
			b[at+i] = byte(g.Intn(4))
		}
	}
	done(t, d.Write(no, b))
}
