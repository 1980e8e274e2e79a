package dump

import (
	"bytes"
	"fmt"
	"math/rand"
	"slices"
	"strings"
	"testing"

	"credenza/api"
	"credenza/fault"
	"credenza/fs"
)

// some are items as Tree tells them, with a bit of everything.
func some() []api.Item {
	return []api.Item{f("/a", "a"), d("/d"), d("/d/e"), f("/d/e/x", strings.Repeat("x", 1500)), f("/d/y", ""), f("/z", "foobar")}
}

// TestDead: a disk that is dead is told, and there is nothing beside it, also when the disk lives again.
func TestDead(t *testing.T) { // 13.1, 13.3
	r := made(t, 256, 20, 0)
	done(t, Load(r.f, some()))
	r.d.Fuse(0)
	for range 2 {
		r.refuses(t, api.ErrDead)
		tells(t, Load(r.f, []api.Item{d("/n")}), api.ErrDead)
		tells(t, Load(r.f, []api.Item{d("n")}), api.ErrName) // what is wrong is told ahead of it
		done(t, Load(r.f, nil))
		r.d.Power()
	}
	r.open(t)
	r.has(t, some()...)
}

// open opens the tree anew.
func (r *rig) open(t testing.TB) {
	t.Helper()
	var err error
	r.f, err = fs.Open(r.d)
	done(t, err)
}

// TestEachDeath: at whichever write the disk dies, the first so many items are laid, each whole.
func TestEachDeath(t *testing.T) { // 13.1, W2
	r := made(t, 256, 20, 0)
	writes := r.d.Writes()
	done(t, Load(r.f, some()))
	writes = r.d.Writes() - writes
	seen := make([]int, len(some())+1)
	for n := range writes {
		r := made(t, 256, 20, 0)
		r.d.Fuse(n)
		tells(t, Load(r.f, some()), api.ErrDead)
		r.refuses(t, api.ErrDead)
		r.d.Power()
		r.open(t)
		l, err := Tree(r.f)
		done(t, err)
		if len(l) > len(some()) || show(l) != show(some()[:len(l)]) {
			t.Fatal(n, show(l))
		}
		seen[len(l)]++
		done(t, r.f.Check())
	}
	if slices.Contains(seen, 0) {
		t.Error(seen)
	}
}

// record is a name with its inode, as a directory has it.
func record(name string, id int) []byte {
	b := make([]byte, 32)
	b[0] = byte(len(name))
	copy(b[1:], name)
	b[31] = byte(id)
	return b
}

// point makes the name, whose inode is was, have the inode id, below the tree.
func (r *rig) point(t testing.TB, name string, was, id int) {
	t.Helper()
	n := 0
	for no := 96; no < r.d.Blocks(); no++ { // behind the journal
		b, err := r.d.Read(no)
		done(t, err)
		if at := bytes.Index(b, record(name, was)); at >= 0 {
			copy(b[at:], record(name, id))
			done(t, r.d.Write(no, b))
			n++
		}
	}
	if n != 1 {
		t.Fatal(name, n)
	}
}

// TestShared: directories that have many names each make more paths than there are inodes, many millions of them; such a thing is no tree, and that is told at once.
func TestShared(t *testing.T) { // 13.3, W9, W10
	const levels, wide = 5, 35
	r := made(t, 512, 200, 0)
	for level := range levels {
		done(t, r.f.Mkdir(fmt.Sprint("/", level)))
		for i := range wide {
			done(t, r.f.Make(fmt.Sprintf("/%d/n%d-%02d", level, level, i)))
		}
	}
	l, err := Tree(r.f)
	if len(l) != levels*(wide+1) || err != nil {
		t.Fatal(len(l), err)
	}
	for level := range levels - 1 { // all that is in a directory becomes the next directory
		home := 2 + level*(wide+1)
		for i := range wide {
			r.point(t, fmt.Sprintf("n%d-%02d", level, i), home+1+i, home+wide+1)
		}
	}
	r.refuses(t, api.ErrForm)
}

// TestLoop: directories that have one another have no last path; that is told.
func TestLoop(t *testing.T) { // 13.3, W9, W10
	for _, id := range []int{1, 2, 3} { // the root, the directory above, the directory itself
		r := made(t, 256, 20, 0)
		done(t, Load(r.f, []api.Item{d("/d"), d("/d/e"), f("/d/e/back", "")}))
		r.point(t, "back", 4, id)
		l, err := Tree(r.f)
		if len(l) != 0 || !is(err, fault.Num(err)) {
			t.Error(id, show(l), fault.Text(err))
		}
	}
}

// TestAnyBytes: whatever is on the disk, both calls end without a panic, and tell what is wrong as their own.
func TestAnyBytes(t *testing.T) { // 13.3, W9, W10
	g := rand.New(rand.NewSource(1))
	wrong := 0
	for range 1000 {
		r := made(t, 256, 20, 5)
		done(t, Load(r.f, some()))
		for range 1 + g.Intn(4) {
			no := 96 + g.Intn(30)
			b, err := r.d.Read(no)
			done(t, err)
			b[g.Intn(40)] = byte(g.Intn(256))
			done(t, r.d.Write(no, b))
		}
		l, err := Tree(r.f)
		if err != nil {
			wrong++
			if len(l) != 0 || !is(err, fault.Num(err)) {
				t.Fatal(show(l), err)
			}
		}
		if err := Load(r.f, []api.Item{d("/n"), f("/d/n", "n"), f("/a", "")}); err != nil && !is(err, fault.Num(err)) {
			t.Fatal(err)
		}
	}
	if wrong < 50 || wrong > 950 {
		t.Error(wrong)
	}
}

// TestAnyItems: whatever items are handed in, every call ends without a panic.
func TestAnyItems(t *testing.T) { // 13.3, W9, W10
	g := rand.New(rand.NewSource(2))
	paths := []string{"", "/", "//", "/a", "/a/b", "/a/b/c", "/d", "/d/a", "/..", "/a b", "/\n", "\xff/", strings.Repeat("/a", 7), "/" + strings.Repeat("n", 1<<16)}
	sizes := []int{0, 1, 128, 1025, 4000, 4001, 1 << 16}
	for range 2000 {
		r := made(t, 128, 8, g.Intn(10))
		l := make([]api.Item, g.Intn(12))
		for i := range l {
			l[i] = api.Item{Path: paths[g.Intn(len(paths))], Dir: g.Intn(2) == 0, Data: make([]byte, sizes[g.Intn(len(sizes))])}
		}
		was := show(l[:min(len(l), 2)])
		if err := Load(r.f, l); err != nil && !is(err, fault.Num(err)) {
			t.Fatal(err)
		}
		if !Same(l, l) || strings.Count(Text(l), "\n") < len(l) || show(l[:min(len(l), 2)]) != was {
			t.Fatal(show(l))
		}
		done(t, r.f.Check())
		k, err := Tree(r.f)
		done(t, err)
		other := made(t, 128, 8, 0)
		done(t, Load(other.f, k))
		other.has(t, k...)
	}
}
