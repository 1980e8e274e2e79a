package fs

import (
	"bytes"
	"fmt"
	"testing"

	"credenza/api"
)

// spend makes a file that leaves just so many blocks free.
func (r *rig) spend(t testing.TB, leave int) {
	t.Helper()
	done(t, r.f.Keep("/fill", nil))
	for i := 0; ; i++ {
		x, err := r.f.Room()
		done(t, err)
		if x.Free <= leave {
			r.left(t, leave, x.Inodes)
			return
		}
		name := "/fill"
		if i > 0 {
			name = fmt.Sprint("/fill", i)
			done(t, r.f.Keep(name, nil))
			x, err = r.f.Room()
			done(t, err)
		}
		done(t, r.f.Keep(name, make([]byte, min(8, x.Free-leave)*128)))
	}
}

// TestFull: a step may take what is free above the reserve, to the last block; and one block more is ErrFull, and changes nothing.
func TestFull(t *testing.T) { // 11.4, W6
	for _, reserve := range []int{0, 1, 5} {
		for _, x := range []struct {
			need int
			op   string
			name string
			do   func(f *FS) error
		}{
			{1, "put", "/a", func(f *FS) error { return f.Put("/a", some(1, 129)) }},
			{7, "put", "/a", func(f *FS) error { return f.Put("/a", some(1, 1024)) }},
			{9, "put", "/a", func(f *FS) error { return f.Put("/a", some(1, 1025)) }},
			{1, "put", "/d/x", func(f *FS) error { return f.Put("/d/x", nil) }},
			{2, "put", "/d/x", func(f *FS) error { return f.Put("/d/x", some(1, 1)) }},
			{11, "put", "/d/x", func(f *FS) error { return f.Put("/d/x", some(1, 1025)) }},
			{10, "put", "/e/x", func(f *FS) error { return f.Put("/e/x", some(1, 1025)) }},
			{2, "put", "/g/x", func(f *FS) error { return f.Put("/g/x", nil) }},
			{4, "put", "/g/x", func(f *FS) error { return f.Put("/g/x", some(1, 130)) }},
			{1, "make", "/d/x", func(f *FS) error { return f.Make("/d/x") }},
			{2, "make", "/g/x", func(f *FS) error { return f.Make("/g/x") }},
			{1, "mkdir", "/d/x", func(f *FS) error { return f.Mkdir("/d/x") }},
			{2, "mkdir", "/g/x", func(f *FS) error { return f.Mkdir("/g/x") }},
			{1, "rename", "/a", func(f *FS) error { return f.Rename("/a", "/d/x") }},
			{1, "rename", "/e", func(f *FS) error { return f.Rename("/e", "/d/x") }},
			{2, "rename", "/a", func(f *FS) error { return f.Rename("/a", "/g/x") }},
			{1, "write", "9", func(f *FS) error { return f.Write(9, 128, some(1, 1)) }},
			{9, "write", "9", func(f *FS) error { return f.Write(9, 1024, some(1, 1)) }},
			{1, "cut", "9", func(f *FS) error { return f.Cut(9, 256) }},
			{32, "cut", "9", func(f *FS) error { return f.Cut(9, 4000) }},
		} {
			r := crowd(t, reserve)
			r.spend(t, reserve+x.need-1)
			was := image(t, r.d)
			tells(t, x.do(r.f), x.op, x.name, api.ErrFull)
			same(t, r, was)
			done(t, r.f.Remove("/fill"))
			r.spend(t, reserve+x.need)
			done(t, x.do(r.f))
			now, err := r.f.Room()
			if now.Free < reserve || err != nil {
				t.Error(x.op, x.name, now, err)
			}
			done(t, r.f.Check())
		}
	}
}

// crowd is a tree with /a, a file of 128 bytes that is held as 9, /d, a directory of 4 names, /e, one of 1, and /g, one of 32; the next names there need 1, 0 and 2 blocks.
func crowd(t testing.TB, reserve int) *rig {
	t.Helper()
	r := made(t, 512, 100, reserve).lay(t, "/d/", "/d/1/", "/d/2/", "/d/3/", "/d/4/", "/e/", "/e/1/")
	done(t, r.f.Put("/a", some(1, 128)))
	if id, err := r.f.Hold("/a"); id != 9 || err != nil {
		t.Fatal(id, err)
	}
	r.lay(t, "/g/")
	for i := range 32 {
		done(t, r.f.Make(fmt.Sprint("/g/", i)))
	}
	return r
}

// same looks whether the disk is as it was.
func same(t testing.TB, r *rig, was [][]byte) {
	t.Helper()
	for i, b := range image(t, r.d) {
		if !bytes.Equal(b, was[i]) {
			t.Error("block", i, "has changed")
		}
	}
	done(t, r.f.Check())
}

// TestFullNot: what needs no block is done however few are free, below the reserve too.
func TestFullNot(t *testing.T) { // 11.3, 11.4, W6
	for _, leave := range []int{0, 3, 5} {
		r := crowd(t, 5)
		r.spend(t, leave)
		done(t, r.f.Put("/a", some(2, 128)))
		done(t, r.f.Put("/a", some(2, 1)))
		done(t, r.f.Put("/a", some(2, 127)))
		done(t, r.f.Make("/e/x"))
		done(t, r.f.Put("/e/x", nil))
		done(t, r.f.Mkdir("/e/y"))
		done(t, r.f.Rename("/e/x", "/e/z"))
		done(t, r.f.Rename("/d/1", "/d/x"))
		done(t, r.f.Rename("/g/1", "/g/x"))
		done(t, r.f.Rename("/d/x", "/e/d"))
		done(t, r.f.Write(9, 3, some(1, 125)))
		done(t, r.f.Write(9, 4000, nil))
		done(t, r.f.Cut(9, 128))
		done(t, r.f.Cut(9, 5))
		done(t, r.f.Rename("/g/2", "/g/3"))
		done(t, r.f.Rename("/g/4", "/a"))
		done(t, r.f.Rename("/a", "/g/5"))
		done(t, r.f.Remove("/d/2"))
		done(t, r.f.Check())
	}
}

// filled is how many files spend has made.
func filled(t testing.TB, r *rig) int {
	t.Helper()
	l, err := r.f.List("/")
	done(t, err)
	n := 0
	for _, s := range l {
		if len(s) >= 4 && s[:4] == "fill" {
			n++
		}
	}
	return n
}

// TestGivenBack: what a step gives back does not count for itself: a Rename to where a block is needed is ErrFull, though the directory it leaves gives one back.
func TestGivenBack(t *testing.T) { // 11.4
	r := made(t, 256, 40, 0).lay(t, "/d/", "/d/1", "/d/2", "/d/3", "/d/4", "/e/", "/e/x")
	r.spend(t, 0)
	tells(t, r.f.Rename("/e/x", "/d/x"), "rename", "/e/x", api.ErrFull)
	done(t, r.f.Rename("/e/x", "/d/1")) // needs none
	r.left(t, 2, 40-1-2-4-filled(t, r)) // that of /d/1 and that of /e's names
	done(t, r.f.Check())
}

// TestKeep: all blocks may be used, and not one more.
func TestKeep(t *testing.T) { // 11.4, W6
	for _, x := range []struct {
		need, size int
		path       string
	}{{1, 129, "/a"}, {9, 1025, "/a"}, {1, 0, "/d/x"}, {2, 1, "/d/x"}, {10, 1025, "/e/x"}, {2, 0, "/g/x"}, {5, 384, "/g/x"}} {
		r := crowd(t, 40)
		r.spend(t, x.need-1)
		was := image(t, r.d)
		tells(t, r.f.Keep(x.path, some(1, x.size)), "keep", x.path, api.ErrFull)
		same(t, r, was)
		done(t, r.f.Remove("/fill"))
		r.spend(t, x.need)
		tells(t, r.f.Put(x.path, some(1, x.size)), "put", x.path, api.ErrFull)
		done(t, r.f.Keep(x.path, some(1, x.size)))
		if b, err := r.f.Get(x.path); !bytes.Equal(b, some(1, x.size)) || err != nil {
			t.Error(x, len(b), err)
		}
		now, err := r.f.Room()
		if now.Free != 0 || now.Reserve != 40 || err != nil {
			t.Error(x, now, err)
		}
		done(t, r.f.Check())
	}
}

// TestReserve: whatever ordinary steps do, the reserve is left; and then a name can be turned and one small file kept.
func TestReserve(t *testing.T) { // 11.4, W6
	r := made(t, 256, 30, 4).lay(t, "/entries/", "/entries/a+3.conf")
	for i := range 40 {
		r.f.Put(fmt.Sprint("/n", i%20), some(i, i*97%4000))
		r.f.Mkdir(fmt.Sprint("/m", i))
		now, err := r.f.Room()
		if now.Free < 4 || err != nil {
			t.Fatal(now, err)
		}
	}
	done(t, r.f.Rename("/entries/a+3.conf", "/entries/a+2-1.conf"))
	done(t, r.f.Remove("/n0"))
	done(t, r.f.Keep("/last", []byte("a+2-1.conf")))
	done(t, r.f.Check())
}
