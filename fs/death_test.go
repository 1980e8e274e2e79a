package fs

import (
	"bytes"
	"errors"
	"fmt"
	"testing"

	"credenza/api"
	"credenza/disk"
	"credenza/fault"
)

// rich is a tree with a bit of everything; /h is held as 8, and 9 is held without a name.
func rich(t testing.TB) *rig {
	t.Helper()
	r := made(t, 256, 20, 5).lay(t, "/a", "/b", "/d/", "/d/e/", "/d/e/f", "/g/", "/h")
	done(t, r.f.Put("/a", some(1, 1500)))
	done(t, r.f.Put("/n", some(2, 2000)))
	for p, want := range map[string]int{"/h": 8, "/n": 9} {
		if id, err := r.f.Hold(p); id != want || err != nil {
			t.Fatal(p, id, err)
		}
	}
	done(t, r.f.Remove("/n"))
	return r
}

// steps are steps on a rich tree that write.
func steps() []op {
	return []op{
		{kind: "make", a: "/x"}, {kind: "make", a: "/d/e/x"}, {kind: "mkdir", a: "/d/x"}, {kind: "remove", a: "/a"}, {kind: "remove", a: "/g"}, {kind: "remove", a: "/h"},
		{kind: "rename", a: "/a", b: "/x"}, {kind: "rename", a: "/a", b: "/b"}, {kind: "rename", a: "/a", b: "/h"}, {kind: "rename", a: "/h", b: "/d/e/f"}, {kind: "rename", a: "/d", b: "/g/d"}, {kind: "rename", a: "/b", b: "/d/e/x"},
		{kind: "put", a: "/x", data: some(5, 4000)}, {kind: "put", a: "/a", data: some(6, 4000)}, {kind: "put", a: "/a", data: some(7, 3)}, {kind: "put", a: "/h", data: some(8, 1025)}, {kind: "keep", a: "/d/x", data: some(9, 2000)},
		{kind: "write", id: 8, n: 100, data: some(3, 2000)}, {kind: "write", id: 9, n: 100, data: some(3, 3000)}, {kind: "cut", id: 8, n: 4000}, {kind: "cut", id: 9, n: 1}, {kind: "loose", id: 9},
	}
}

// TestEachDeath: each kind of step is whole or not at all, at whichever write the disk dies; and once it came back, it lasts.
func TestEachDeath(t *testing.T) { // 11.6, W2
	for _, o := range steps() {
		r := rich(t)
		was := tree(t, r.f, "/")
		writes := r.d.Writes()
		_, err := o.do(r.f)
		done(t, err)
		will := tree(t, r.f, "/")
		writes = r.d.Writes() - writes
		if writes == 0 {
			t.Fatal(o.kind, o.a)
		}
		seen := [2]int{}
		for n := range writes + 1 {
			r := rich(t)
			r.d.Fuse(n)
			_, err := o.do(r.f)
			if n == writes {
				done(t, err)
			} else {
				tells(t, err, o.kind, o.name(), api.ErrDead)
			}
			r.d.Power()
			r.open(t)
			switch now := tree(t, r.f, "/"); {
			case now == will:
				seen[1]++
			case now == was && err != nil:
				seen[0]++
			default:
				t.Fatal(o.kind, o.a, n, now)
			}
			r.sound(t)
		}
		if seen[1] == 0 || was != will && seen[0] == 0 {
			t.Error(o.kind, o.a, seen)
		}
	}
}

// sound looks whether all blocks and inodes that nothing of the tree has are free, as on a disk where the tree was laid anew.
func (r *rig) sound(t testing.TB) {
	t.Helper()
	done(t, r.f.Check())
	x, err := r.f.Room()
	done(t, err)
	blocks, inodes := used(t, r.f, "/")
	if x.Free != x.Data-blocks || x.Inodes != r.f.inodes-inodes {
		t.Fatal(x, blocks, inodes)
	}
}

// used is how many blocks and inodes what is at path has.
func used(t testing.TB, f *FS, path string) (blocks, inodes int) {
	t.Helper()
	x, err := f.Stat(path)
	done(t, err)
	if !x.Dir {
		return had(x.Size), 1
	}
	l, err := f.List(path)
	done(t, err)
	blocks, inodes = had(32*x.Size), 1
	for _, s := range l {
		if path == "/" {
			s = "/" + s
		} else {
			s = path + "/" + s
		}
		b, i := used(t, f, s)
		blocks += b
		inodes += i
	}
	return blocks, inodes
}

// TestFormatDeath: behind a death within Format there is no tree, or the empty one, whatever was there.
func TestFormatDeath(t *testing.T) { // 11.1, W2
	for _, old := range []bool{false, true} {
		start := func() *disk.Disk {
			r := rich(t)
			if !old {
				d, err := disk.New(256)
				done(t, err)
				return d
			}
			r.d.Fuse(60) // with a step under way
			_, err := steps()[12].do(r.f)
			tells(t, err, "put", "/x", api.ErrDead)
			r.d.Power()
			return r.d
		}
		d := start()
		writes := d.Writes()
		_, err := Format(d, 30, 7)
		done(t, err)
		writes = d.Writes() - writes
		for n := 1; n <= writes; n++ {
			d := start()
			d.Fuse(n)
			f, err := Format(d, 30, 7)
			if n < writes {
				zero(t, f == nil)
				tells(t, err, "format", "", api.ErrDead)
			} else {
				done(t, err)
			}
			d.Power()
			x, err := Open(d)
			if n < writes {
				zero(t, x == nil)
				tells(t, err, "open", "", api.ErrForm)
				continue
			}
			done(t, err)
			(&rig{d: d, f: x}).has(t, "")
		}
	}
}

// TestOpenDeath: Open can die at each of its writes, again and again; what it has to take away is taken away at last, and nothing else.
func TestOpenDeath(t *testing.T) { // 11.1, W2
	lost := func() *rig {
		r := rich(t)
		for i := range 6 {
			p := fmt.Sprint("/z", i)
			done(t, r.f.Put(p, some(i, 200*i)))
			_, err := r.f.Hold(p)
			done(t, err)
			done(t, r.f.Remove(p))
		}
		return r
	}
	r := lost()
	want := tree(t, r.f, "/")
	writes := r.d.Writes()
	r.open(t)
	writes = r.d.Writes() - writes
	if writes < 7*4 {
		t.Fatal(writes)
	}
	for n := range writes {
		r := lost()
		r.d.Fuse(n)
		f, err := Open(r.d)
		zero(t, f == nil)
		tells(t, err, "open", "", api.ErrDead)
		for round := range 4 {
			r.d.Power()
			r.d.Fuse((n*7 + round*5) % 23)
			if _, err := Open(r.d); err != nil {
				tells(t, err, "open", "", api.ErrDead)
			}
		}
		r.d.Power()
		r.open(t)
		r.has(t, want)
		r.sound(t)
		writes := r.d.Writes() // what is in order is left as it is
		r.open(t)
		if r.d.Writes() != writes {
			t.Error(n)
		}
	}
}

// everything is one of each call, none of whose arguments are wrong on a rich tree.
func everything() []op {
	return append(steps(), op{kind: "get", a: "/a"}, op{kind: "list", a: "/"}, op{kind: "list", a: "/d"}, op{kind: "stat", a: "/"}, op{kind: "stat", a: "/a"}, op{kind: "room"}, op{kind: "hold", a: "/a"}, op{kind: "read", id: 8, k: 5}, op{kind: "size", id: 8}, op{kind: "check"}, op{kind: "rename", a: "/a", b: "/a"}, op{kind: "write", id: 8})
}

// TestDead: all calls tell ErrDead of a dead disk, but for what is wrong with their arguments.
func TestDead(t *testing.T) { // 11.6 and Ways
	for _, o := range everything() {
		r := rich(t)
		r.d.Fuse(0)
		s, err := o.do(r.f)
		tells(t, err, o.kind, o.name(), api.ErrDead)
		if s != o.nothing() {
			t.Error(o.kind, s)
		}
	}
	d, err := disk.New(256)
	done(t, err)
	d.Fuse(0)
	f, err := Format(d, 20, 5)
	zero(t, f == nil)
	tells(t, err, "format", "", api.ErrDead)
	f, err = Open(d)
	zero(t, f == nil)
	tells(t, err, "open", "", api.ErrDead)
	var fault *api.Fault // what lies below is wrapped
	if !errors.As(err, &fault) || fault.Err == error(api.ErrDead) {
		t.Error(err)
	}
}

// TestNoUse: an FS whose disk told an error once is of no use, though the disk lives again: it tells ErrDead and writes nothing. Opened anew the tree is there.
func TestNoUse(t *testing.T) { // 11.6, W2, W3
	for _, first := range everything() {
		for _, n := range []int{0, 3, 45, 60} {
			r := rich(t)
			r.d.Fuse(n)
			if _, err := first.do(r.f); fault.Num(err) != api.ErrDead {
				continue
			}
			r.d.Power()
			was := image(t, r.d)
			for _, o := range everything() {
				s, err := o.do(r.f)
				tells(t, err, o.kind, o.name(), api.ErrDead)
				if s != o.nothing() {
					t.Error(o.kind, s)
				}
			}
			for i, b := range image(t, r.d) {
				if !bytes.Equal(b, was[i]) {
					t.Fatal(first.kind, n, i)
				}
			}
			r.open(t)
			r.sound(t)
		}
	}
}

// TestDeadOrder: what is wrong with the arguments is told of a dead disk too, ahead of it.
func TestDeadOrder(t *testing.T) { // 11.6; DOC.md, rule 5
	r := rich(t)
	r.d.Fuse(0)
	big := some(1, 4001)
	for range 2 { // before the disk has told it, and behind that
		for _, x := range []struct {
			o op
			n api.Errno
		}{
			{op{kind: "make", a: "x"}, api.ErrName}, {op{kind: "mkdir", a: "/"}, api.ErrExists}, {op{kind: "remove", a: "/"}, api.ErrArg}, {op{kind: "put", a: "/"}, api.ErrDir}, {op{kind: "put", a: "/a", data: big}, api.ErrBig}, {op{kind: "keep", a: "/a/", data: big}, api.ErrName},
			{op{kind: "rename", a: "/a", b: ""}, api.ErrName}, {op{kind: "rename", a: "/", b: "/a"}, api.ErrArg}, {op{kind: "get", a: ""}, api.ErrName}, {op{kind: "list", a: "//"}, api.ErrName}, {op{kind: "stat", a: "."}, api.ErrName}, {op{kind: "hold", a: "a"}, api.ErrName},
			{op{kind: "loose", id: 7}, api.ErrHeld}, {op{kind: "read", id: 7}, api.ErrHeld}, {op{kind: "size"}, api.ErrHeld}, {op{kind: "read", id: 8, n: -1}, api.ErrArg}, {op{kind: "write", id: 8, n: -1}, api.ErrArg}, {op{kind: "write", id: 8, data: big}, api.ErrBig}, {op{kind: "cut", id: 8, n: -1}, api.ErrArg}, {op{kind: "cut", id: 8, n: 4001}, api.ErrBig},
		} {
			_, err := x.o.do(r.f)
			tells(t, err, x.o.kind, x.o.name(), x.n)
		}
		_, err := r.f.Room()
		tells(t, err, "room", "", api.ErrDead)
	}
}
