package fs

import (
	"bytes"
	"fmt"
	"math"
	"testing"

	"credenza/api"
	"credenza/fault"
)

// held is how often path is held, as it is told.
func (r *rig) held(t testing.TB, path string) int {
	t.Helper()
	x, err := r.f.Stat(path)
	done(t, err)
	return x.Held
}

func TestHold(t *testing.T) { // 11.5, 11.2
	r := made(t, 256, 20, 5).lay(t, "/d/", "/d/a", "/b")
	for i := range 5 {
		if id, err := r.f.Hold("/d/a"); id != 3 || err != nil {
			t.Error(id, err)
		}
		if n := r.held(t, "/d/a"); n != i+1 {
			t.Error(n)
		}
	}
	if id, err := r.f.Hold("/b"); id != 4 || err != nil {
		t.Error(id, err)
	}
	done(t, r.f.Rename("/d/a", "/c")) // it goes on by its inode
	done(t, r.f.Put("/d/a", []byte("other")))
	if n, m := r.held(t, "/c"), r.held(t, "/d/a"); n != 5 || m != 0 {
		t.Error(n, m)
	}
	done(t, r.f.Put("/c", []byte("now"))) // Put is on the same file
	if b, err := r.f.Read(3, 0, 99); string(b) != "now" || err != nil {
		t.Error(b, err)
	}
	for i := range 5 {
		done(t, r.f.Loose(3))
		if n := r.held(t, "/c"); n != 4-i {
			t.Error(n)
		}
	}
	tells(t, r.f.Loose(3), "loose", "3", api.ErrHeld)
	r.has(t, `/b="/b" /c="now" /d/ /d/a="other" `) // it had a name
}

// TestNotHeld: whatever else is wrong, ErrHeld is told of what is not held, also of what is no inode.
func TestNotHeld(t *testing.T) { // 11.5
	r := made(t, 256, 20, 5).lay(t, "/a", "/d/")
	id, err := r.f.Hold("/a")
	done(t, err)
	for _, id := range []int{0, -1, 1, 3, 4, 20, 21, 200, math.MaxInt, math.MinInt} {
		name := fmt.Sprint(id)
		for _, x := range []int{0, -1, 5000, math.MaxInt, math.MinInt} {
			b, err := r.f.Read(id, x, x)
			zero(t, len(b) == 0)
			tells(t, err, "read", name, api.ErrHeld)
			tells(t, r.f.Write(id, x, make([]byte, 5000)), "write", name, api.ErrHeld)
			tells(t, r.f.Cut(id, x), "cut", name, api.ErrHeld)
		}
		n, err := r.f.Size(id)
		zero(t, n == 0)
		tells(t, err, "size", name, api.ErrHeld)
		tells(t, r.f.Loose(id), "loose", name, api.ErrHeld)
	}
	done(t, r.f.Loose(id))
	tells(t, r.f.Loose(id), "loose", "2", api.ErrHeld)
	r.has(t, `/a="/a" /d/ `)
}

func TestReadWrong(t *testing.T) { // 11.5
	r := made(t, 256, 20, 5).lay(t, "/a")
	id, err := r.f.Hold("/a")
	done(t, err)
	for _, x := range [][2]int{{-1, 0}, {0, -1}, {-1, -1}, {math.MinInt, math.MinInt}} {
		b, err := r.f.Read(id, x[0], x[1])
		zero(t, len(b) == 0)
		tells(t, err, "read", "2", api.ErrArg)
	}
	for _, at := range []int{-1, math.MinInt} {
		tells(t, r.f.Write(id, at, nil), "write", "2", api.ErrArg)
		tells(t, r.f.Write(id, at, make([]byte, 4001)), "write", "2", api.ErrArg)
		tells(t, r.f.Cut(id, at), "cut", "2", api.ErrArg)
	}
	for _, x := range [][2]int{{4000, 1}, {3999, 2}, {0, 4001}, {1, 4000}, {4001, 0}, {math.MaxInt, 0}, {math.MaxInt, 1}, {math.MaxInt, 4001}} {
		tells(t, r.f.Write(id, x[0], make([]byte, x[1])), "write", "2", api.ErrBig)
	}
	for _, n := range []int{4001, math.MaxInt} {
		tells(t, r.f.Cut(id, n), "cut", "2", api.ErrBig)
	}
	r.has(t, `/a="/a" `)
}

// TestBytes: what a held file has, by Read, Write, Cut and Size, with and without a name.
func TestBytes(t *testing.T) { // 11.5
	r := made(t, 256, 20, 5)
	done(t, r.f.Put("/a", []byte("abc")))
	id, err := r.f.Hold("/a")
	done(t, err)
	want := []byte("abc")
	for i, x := range []struct{ at, n, cut int }{{0, 1, 3}, {5, 2, 6}, {1000, 100, 1050}, {0, 0, 1050}, {4000, 0, 1025}, {3990, 10, 4000}, {0, 4000, 4000}, {7, 7, 0}, {0, 3, 500}, {499, 2, 128}} {
		if i == 5 {
			done(t, r.f.Remove("/a"))
		}
		b := some(i, x.n)
		done(t, r.f.Write(id, x.at, b))
		if x.n > 0 {
			want = append(want, make([]byte, max(0, x.at+x.n-len(want)))...)
			copy(want[x.at:], b)
		}
		done(t, r.f.Cut(id, x.cut))
		want = append(want, make([]byte, max(0, x.cut-len(want)))...)[:x.cut]
		if n, err := r.f.Size(id); n != len(want) || err != nil {
			t.Fatal(i, n, err)
		}
		for _, y := range [][2]int{{0, 4000}, {0, math.MaxInt}, {1, 5}, {len(want), 1}, {len(want) / 2, 130}, {math.MaxInt, math.MaxInt}} {
			from := min(y[0], len(want))
			if b, err := r.f.Read(id, y[0], y[1]); !bytes.Equal(b, want[from:from+min(y[1], len(want)-from)]) || err != nil {
				t.Fatal(i, y, len(b), err)
			}
		}
		if i < 5 {
			if b, err := r.f.Get("/a"); !bytes.Equal(b, want) || err != nil {
				t.Fatal(i, len(b), err)
			}
		}
		done(t, r.f.Check())
	}
	done(t, r.f.Loose(id))
	r.left(t, 139, 19)
}

// TestNameless: a file that is held is there without a name, its inode and its blocks too, till it is loose.
func TestNameless(t *testing.T) { // 11.2, 11.5, W3
	r := made(t, 256, 20, 5)
	done(t, r.f.Put("/a", some(1, 1500)))
	for range 2 {
		if id, err := r.f.Hold("/a"); id != 2 || err != nil {
			t.Error(id, err)
		}
	}
	done(t, r.f.Remove("/a"))
	_, err := r.f.Stat("/a")
	tells(t, err, "stat", "/a", api.ErrNone)
	r.left(t, 139-13, 18)
	done(t, r.f.Check())
	done(t, r.f.Put("/a", []byte("b"))) // another one
	if id, err := r.f.Hold("/a"); id != 3 || err != nil {
		t.Error(id, err)
	}
	done(t, r.f.Loose(3))
	done(t, r.f.Loose(2))
	if b, err := r.f.Read(2, 0, 4000); !bytes.Equal(b, some(1, 1500)) || err != nil {
		t.Error(len(b), err)
	}
	r.left(t, 139-13-2, 17)
	done(t, r.f.Check())
	done(t, r.f.Loose(2))
	r.left(t, 139-2, 18)
	tells(t, r.f.Loose(2), "loose", "2", api.ErrHeld)
	r.has(t, `/a="b" `)
	done(t, r.f.Make("/c"))
	if id, err := r.f.Hold("/c"); id != 2 || err != nil {
		t.Error(id, err)
	}
	done(t, r.f.Loose(2)) // it has a name, though its inode was nameless once
	r.has(t, `/a="b" /c="" `)
}

// TestOpenHeld: behind Open nothing is held, and files without a name are gone, be they more than one group takes.
func TestOpenHeld(t *testing.T) { // 11.1
	r := made(t, 2048, 200, 5).lay(t, "/d/", "/d/x", "/y")
	for _, up := range []string{"", "/d"} {
		for i := range 98 {
			p := fmt.Sprint(up, "/n", i)
			done(t, r.f.Put(p, some(i, 129)))
			_, err := r.f.Hold(p)
			done(t, err)
		}
	}
	for range 3 {
		_, err := r.f.Hold("/y")
		done(t, err)
	}
	for _, up := range []string{"", "/d"} {
		for i := range 98 {
			done(t, r.f.Remove(fmt.Sprint(up, "/n", i)))
		}
	}
	r.left(t, 2048-96-200-2-1-1-1-1-98*2*2, 0)
	done(t, r.f.Check())
	r.open(t)
	r.left(t, 2048-96-200-2-1-1-1-1, 196)
	if n := r.held(t, "/y"); n != 0 {
		t.Error(n)
	}
	for id := range 202 {
		tells(t, r.f.Loose(id), "loose", fmt.Sprint(id), api.ErrHeld)
	}
	r.has(t, `/d/ /d/x="/d/x" /y="/y" `)
}

func TestRoomOrder(t *testing.T) { // 11.5; DOC.md, rule 5
	r := made(t, 128, 20, 3).lay(t, "/a")
	id, err := r.f.Hold("/a")
	done(t, err)
	done(t, r.f.Put("/b", some(1, 6*128)))
	r.left(t, 3, 17)
	tells(t, r.f.Write(id, 4000, []byte("x")), "write", "2", api.ErrBig)
	tells(t, r.f.Write(id, 3999, []byte("x")), "write", "2", api.ErrFull)
	tells(t, r.f.Cut(id, 4001), "cut", "2", api.ErrBig)
	tells(t, r.f.Cut(id, 4000), "cut", "2", api.ErrFull)
	done(t, r.f.Write(id, 4000, nil)) // nothing is done, so nothing is needed
	done(t, r.f.Write(id, 0, make([]byte, 128)))
	done(t, r.f.Cut(id, 128))
	done(t, r.f.Cut(id, 0))
	r.left(t, 4, 17)
	done(t, r.f.Cut(id, 1))
	tells(t, r.f.Write(id, 128, []byte("x")), "write", "2", api.ErrFull)
	if err := r.f.Check(); err != nil {
		t.Error(fault.Text(err))
	}
}
