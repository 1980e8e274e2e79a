package dump

import (
	"bytes"
	"errors"
	"fmt"
	"hash/fnv"
	"slices"
	"strings"
	"testing"

	"credenza/api"
	"credenza/disk"
	"credenza/fault"
	"credenza/fs"
)

// rig is a disk and the tree on it.
type rig struct {
	d *disk.Disk
	f *fs.FS
}

// made is an empty tree.
func made(t testing.TB, blocks, inodes, reserve int) *rig {
	t.Helper()
	d, err := disk.New(blocks)
	done(t, err)
	f, err := fs.Format(d, inodes, reserve)
	done(t, err)
	return &rig{d: d, f: f}
}

// done looks whether nothing went wrong.
func done(t testing.TB, err error) {
	t.Helper()
	if err != nil {
		t.Fatal(fault.Text(err))
	}
}

// is says whether err is a Fault of this layer with that number at the bottom.
func is(err error, n api.Errno) bool {
	f, ok := err.(*api.Fault)
	return ok && f.Op == "dump" && f.Name == "" && errors.Is(err, n) && fault.Num(err) == n
}

// tells looks whether err is a Fault of this layer with that number at the bottom.
func tells(t testing.TB, err error, n api.Errno) {
	t.Helper()
	if !is(err, n) {
		t.Errorf("%q, not error %d", fault.Text(err), n)
	}
}

// d is a directory, and f is a file.
func d(path string) api.Item       { return api.Item{Path: path, Dir: true} }
func f(path, data string) api.Item { return api.Item{Path: path, Data: []byte(data)} }

// show tells items as a text, told a second time and with all that they have.
func show(l []api.Item) string {
	var s []string
	for _, x := range l {
		s = append(s, fmt.Sprintf("%q %v %q", x.Path, x.Dir, x.Data))
	}
	return strings.Join(s, "\n")
}

// has looks whether Tree tells just these items.
func (r *rig) has(t testing.TB, want ...api.Item) {
	t.Helper()
	l, err := Tree(r.f)
	done(t, err)
	if show(l) != show(want) {
		t.Fatalf("%s\nnot\n%s", show(l), show(want))
	}
}

// refuses looks whether Tree tells an error of that number and no items.
func (r *rig) refuses(t testing.TB, n api.Errno) {
	t.Helper()
	l, err := Tree(r.f)
	if len(l) != 0 {
		t.Error(show(l))
	}
	tells(t, err, n)
}

func TestNil(t *testing.T) { // 13.1
	for _, l := range [][]api.Item{nil, {}, {d("/a")}, {{Path: "no path"}}} {
		err := Load(nil, l)
		tells(t, err, api.ErrArg)
		if s := fault.Text(err); s != "dump: error 1" {
			t.Error(s)
		}
	}
	(&rig{}).refuses(t, api.ErrArg)
}

func TestEmpty(t *testing.T) { // 13.1: not the root
	r := made(t, 128, 8, 0)
	r.has(t)
	done(t, Load(r.f, nil))
	done(t, Load(r.f, []api.Item{}))
	r.has(t)
}

// TestOrder: names go by bytes, and what is in a directory stands right behind it. Paths held against each other as bytes would go another way, as there are signs of names ahead of the slash.
func TestOrder(t *testing.T) { // 13.1
	want := []api.Item{
		f("/+", "1"), f("/-", ""), f("/.a", "2"), d("/0"), f("/A", "3"), f("/Z", ""), f("/_", "4"),
		d("/a"), f("/a/+", "5"), d("/a/a"), d("/a/a/z"), f("/a/a/z/y", "6"), f("/a/a.", "7"), f("/a/b", "8"),
		d("/a+"), f("/a+/x", "9"), f("/a-", ""), f("/a.b", "10"), f("/a0", ""), d("/aa"), f("/aa/a", "11"), f("/b", ""), d("/z"), f("/~", "12"),
	}
	r := made(t, 256, 40, 0)
	laid := 0
	for depth := 1; depth <= 4; depth++ { // from the end on, so that no directory has its names as they are told
		for _, x := range slices.Backward(want) {
			if strings.Count(x.Path, "/") == depth {
				done(t, Load(r.f, []api.Item{x}))
				laid++
			}
		}
	}
	if laid != len(want) {
		t.Fatal(laid)
	}
	r.has(t, want...)
}

// TestTree: what a tree became is what is told, and what has no name is not.
func TestTree(t *testing.T) { // 13.1, W1
	r := made(t, 512, 30, 5)
	long := strings.Repeat("long", 1000)
	done(t, Load(r.f, []api.Item{d("/d"), d("/d/e"), f("/d/e/x", "x"), f("/a", "a"), f("/b", long), f("/c", "\x00\xff\n")}))
	done(t, r.f.Rename("/d", "/n"))
	done(t, r.f.Rename("/a", "/n/a"))
	done(t, r.f.Keep("/k", []byte("k")))
	r.has(t, f("/b", long), f("/c", "\x00\xff\n"), f("/k", "k"), d("/n"), f("/n/a", "a"), d("/n/e"), f("/n/e/x", "x"))
	id, err := r.f.Hold("/b")
	done(t, err)
	done(t, r.f.Remove("/b"))
	done(t, r.f.Remove("/n/e/x"))
	done(t, r.f.Put("/c", nil))
	r.has(t, f("/c", ""), f("/k", "k"), d("/n"), f("/n/a", "a"), d("/n/e"))
	done(t, r.f.Loose(id))
	r.has(t, f("/c", ""), f("/k", "k"), d("/n"), f("/n/a", "a"), d("/n/e"))
}

// TestLooksOnly: Tree writes nothing, and holds nothing.
func TestLooksOnly(t *testing.T) { // 13.1
	r := made(t, 256, 20, 5)
	want := []api.Item{f("/a", "a"), d("/d"), f("/d/b", "b")}
	done(t, Load(r.f, want))
	id, err := r.f.Hold("/a")
	done(t, err)
	room, err := r.f.Room()
	done(t, err)
	writes := r.d.Writes()
	r.has(t, want...)
	if now, err := r.f.Room(); now != room || err != nil || r.d.Writes() != writes {
		t.Error(now, room, err, r.d.Writes(), writes)
	}
	for _, p := range []string{"/a", "/d/b"} {
		x, err := r.f.Stat(p)
		if x.Held != strings.Count(p, "a") || err != nil {
			t.Error(p, x, err)
		}
	}
	done(t, r.f.Loose(id))
}

// digest is the digest of s as 16 digits, by another's means.
func digest(s string) string {
	h := fnv.New64a()
	h.Write([]byte(s))
	return fmt.Sprintf("%016x", h.Sum64())
}

func TestText(t *testing.T) { // 13.1
	long := strings.Repeat("l", 4000)
	for _, x := range []struct {
		l    []api.Item
		want string
	}{
		{nil, ""}, {[]api.Item{}, ""},
		{[]api.Item{f("/a", "")}, "f /a 0 cbf29ce484222325\n"}, // the document's example
		{[]api.Item{{Path: "/a"}}, "f /a 0 cbf29ce484222325\n"},
		{[]api.Item{f("/a", "foobar")}, "f /a 6 85944171f73967e8\n"},
		{[]api.Item{d("/d")}, "d /d\n"},
		{[]api.Item{d("/d"), f("/d/b", "b\n"), d("/d/e"), f("/z", long)}, "d /d\nf /d/b 2 " + digest("b\n") + "\nd /d/e\nf /z 4000 " + digest(long) + "\n"},
		{[]api.Item{f("/z", "1"), d("/a"), f("/z", "1")}, "f /z 1 " + digest("1") + "\nd /a\nf /z 1 " + digest("1") + "\n"}, // in their order, whatever it is
		{[]api.Item{{Path: "/d", Dir: true, Data: []byte("x")}}, "d /d\n"},
		{[]api.Item{{}, {Dir: true}}, "f  0 cbf29ce484222325\nd \n"}, // what is no path is told too
		{[]api.Item{f("a b\n\xff\x00", long+"x")}, "f a b\n\xff\x00 4001 " + digest(long+"x") + "\n"},
	} {
		if s := Text(x.l); s != x.want {
			t.Errorf("%q, not %q", s, x.want)
		}
	}
}

func TestTextOfMany(t *testing.T) { // 13.3
	l := make([]api.Item, 100000)
	for i := range l {
		l[i].Dir = true
	}
	if s := Text(l); s != strings.Repeat("d \n", len(l)) {
		t.Error(len(s))
	}
}

// TestSame: each list is the same as itself and as no other.
func TestSame(t *testing.T) { // 13.1
	lists := [][]api.Item{
		nil, {{}}, {f("/a", "a")}, {f("/b", "a")}, {f("/a", "b")}, {f("/a", "")}, {f("/a", "aa")}, {d("/a")}, {d("/b")}, {{Path: "/a", Dir: true, Data: []byte("a")}},
		{d("/a"), f("/b", "b")}, {f("/b", "b"), d("/a")}, {d("/a"), f("/b", "c")}, {d("/a"), d("/b")}, {d("/a"), f("/b", "b"), f("/c", "")}, {d("/a"), d("/a")},
	}
	for i, a := range lists {
		for k, b := range lists {
			b = slices.Clone(b)
			for n := range b {
				b[n].Data = bytes.Clone(b[n].Data)
			}
			if Same(a, b) != (i == k) {
				t.Errorf("%s\nand\n%s", show(a), show(b))
			}
		}
	}
	if !Same(nil, []api.Item{}) || !Same([]api.Item{{Path: "/a"}}, []api.Item{f("/a", "")}) || !Same([]api.Item{}, nil) { // DOC.md, rule 1
		t.Error("nothing is nothing")
	}
}

// TestMemory: what is handed in is neither changed nor kept, and what is answered is new, its spare room too.
func TestMemory(t *testing.T) { // DOC.md, rule 3
	r := made(t, 256, 20, 0)
	data := []byte("abcspare")
	all := []api.Item{{Path: "/a", Data: data[:3]}, {Path: "/b", Data: data[1:3]}, d("/c"), f("/spare", "x")}
	was := show(all)
	done(t, Load(r.f, all[:3]))
	Text(all[:3])
	Same(all[:3], all[:2])
	if show(all) != was || string(data) != "abcspare" {
		t.Error(show(all), string(data))
	}
	clear(data)
	clear(all)
	want := []api.Item{f("/a", "abc"), f("/b", "bc"), d("/c")}
	r.has(t, want...)
	l, err := Tree(r.f)
	done(t, err)
	for i := range l { // no two of them share anything
		b := l[i].Data[:cap(l[i].Data)]
		for k := range b {
			b[k] = '!'
		}
		if i == 0 && string(l[1].Data) != "bc" {
			t.Error(show(l))
		}
	}
	clear(l[:cap(l)])
	r.has(t, want...)
}
