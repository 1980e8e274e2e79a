package dump

import (
	"fmt"
	"math/rand"
	"slices"
	"strings"
	"testing"

	"credenza/api"
	"credenza/fault"
	"credenza/fs"
)

// TestLoad: items are laid in their order, each by Mkdir or Put.
func TestLoad(t *testing.T) { // 13.1
	r := made(t, 256, 20, 0)
	done(t, Load(r.f, []api.Item{f("/z", "z"), d("/d"), {Path: "/w", Dir: true, Data: []byte("of no use")}, f("/d/x", "x"), f("/z", "again")}))
	r.has(t, d("/d"), f("/d/x", "x"), d("/w"), f("/z", "again"))
	done(t, Load(r.f, []api.Item{d("/a"), f("/d/x", ""), d("/w/v")})) // on a tree that is not empty
	r.has(t, d("/a"), d("/d"), f("/d/x", ""), d("/w"), d("/w/v"), f("/z", "again"))
	done(t, r.f.Check())
}

// TestLoadReserve: what is laid by Load leaves the reserve, as Put does.
func TestLoadReserve(t *testing.T) { // 13.1, W6
	r := made(t, 128, 8, 10) // 23 blocks for data: one for the name, 10 of the reserve, 12 for the bytes: 11 and one more
	tells(t, Load(r.f, []api.Item{f("/a", strings.Repeat("a", 1409)), f("/b", "")}), api.ErrFull)
	r.has(t)
	l := []api.Item{f("/a", strings.Repeat("a", 1408)), d("/d"), f("/e", "")}
	done(t, Load(r.f, l))
	r.has(t, l...)
	if x, err := r.f.Room(); x.Free != 10 || err != nil {
		t.Error(x, err)
	}
	tells(t, Load(r.f, []api.Item{f("/e", "e"), f("/f", "")}), api.ErrFull)
	r.has(t, l...)
}

// TestLoadWrong: each error of fs is told, wrapped; what stood ahead of it is laid, and nothing behind it.
func TestLoadWrong(t *testing.T) { // 13.1, 13.3, W9
	base := []api.Item{f("/a", "a"), d("/d")}
	many := []api.Item{}
	for i := range 118 { // with /a and /d, 120
		many = append(many, f(fmt.Sprintf("/m%03d", i), ""))
	}
	for i, x := range []struct {
		ahead []api.Item
		bad   api.Item
		n     api.Errno
		text  string
	}{
		{nil, d("/d"), api.ErrExists, "dump: mkdir /d: "},
		{nil, d("/a"), api.ErrExists, "dump: mkdir /a: "},
		{nil, d("/"), api.ErrExists, "dump: mkdir /: "},
		{nil, f("/", ""), api.ErrDir, "dump: put /: "},
		{nil, f("/d", ""), api.ErrDir, "dump: put /d: "},
		{nil, f("/q/a", ""), api.ErrNone, "dump: put /q/a: "},
		{nil, d("/q/a"), api.ErrNone, "dump: mkdir /q/a: "},
		{nil, f("/a/x", ""), api.ErrNotDir, "dump: put /a/x: "},
		{nil, d("/a/x"), api.ErrNotDir, "dump: mkdir /a/x: "},
		{nil, api.Item{}, api.ErrName, "dump: put: "},
		{nil, d(""), api.ErrName, "dump: mkdir: "},
		{nil, f("x", ""), api.ErrName, "dump: put x: "},
		{nil, f("/d/", ""), api.ErrName, "dump: put /d/: "},
		{nil, d("/d/.."), api.ErrName, "dump: mkdir /d/..: "},
		{nil, f("/\xff", ""), api.ErrName, "dump: put /\xff: "},
		{nil, d("/d/2/3/4/5/6/7"), api.ErrName, "dump: mkdir /d/2/3/4/5/6/7: "},
		{nil, f("/"+strings.Repeat("n", 28), ""), api.ErrName, "dump: put /nnn"},
		{nil, f("/b", strings.Repeat("b", 4001)), api.ErrBig, "dump: put /b: "},
		{[]api.Item{f("/b", "b"), d("/e")}, f("/e", ""), api.ErrDir, "dump: put /e: "},
		{[]api.Item{f("/b", "b"), d("/e")}, d("/b"), api.ErrExists, "dump: mkdir /b: "},
		{many, f("/x", ""), api.ErrMany, "dump: put /x: "},
		{many, d("/x"), api.ErrMany, "dump: mkdir /x: "},
	} {
		r := made(t, 512, 200, 0)
		done(t, Load(r.f, base))
		err := Load(r.f, append(slices.Clone(x.ahead), x.bad, f("/d/behind", "")))
		if s := fault.Text(err); !is(err, x.n) || !strings.HasPrefix(s, x.text) {
			t.Error(i, s)
		}
		r.has(t, laid(append(slices.Clone(base), x.ahead...))...)
		done(t, r.f.Check())
	}
}

// laid are items as Tree tells them.
func laid(l []api.Item) []api.Item {
	slices.SortFunc(l, func(x, y api.Item) int {
		return slices.Compare(strings.Split(x.Path, "/"), strings.Split(y.Path, "/"))
	})
	return l
}

// TestLoadInodes: more items than inodes.
func TestLoadInodes(t *testing.T) { // 13.1
	r := made(t, 128, 8, 0)
	var l []api.Item
	for i := range 9 {
		l = append(l, f(fmt.Sprint("/", i), ""))
	}
	tells(t, Load(r.f, l), api.ErrInodes)
	r.has(t, l[:7]...)
}

// again looks whether what Tree tells of r is told so of another tree, once it was loaded there.
func (r *rig) again(t testing.TB, blocks, inodes, reserve int) {
	t.Helper()
	l, err := Tree(r.f)
	done(t, err)
	other := made(t, blocks, inodes, reserve)
	done(t, Load(other.f, l))
	other.has(t, l...)
	done(t, other.f.Check())
	k, err := Tree(other.f)
	if err != nil || !Same(l, k) || Text(l) != Text(k) {
		t.Error(fault.Text(err))
	}
	f, err := fs.Open(other.d) // it lasts
	done(t, err)
	(&rig{d: other.d, f: f}).has(t, l...)
}

// TestEdges: the most of everything: 199 items, 120 names in a directory, 6 names in a path of 27 bytes each, 4,000 bytes.
func TestEdges(t *testing.T) { // 13.1, 13.2, W8
	var l []api.Item
	for i := range 119 {
		l = append(l, f(fmt.Sprintf("/f%03d", i), strings.Repeat("f", i)))
	}
	l = append(l, d("/g"))
	path := "/g"
	for i := range 5 {
		path += "/" + strings.Repeat(string(rune('a'+i)), 27)
		if i < 4 {
			l = append(l, d(path))
		}
	}
	l = append(l, f(path, strings.Repeat("long", 1000)))
	up := path[:strings.LastIndex(path, "/")]
	for i := range 74 {
		l = append(l, api.Item{Path: fmt.Sprintf("%s/x%02d", up, i), Dir: i%2 == 0})
	}
	if len(l) != 199 {
		t.Fatal(len(l))
	}
	r := made(t, 2048, 200, 64)
	done(t, Load(r.f, l))
	r.has(t, l...)
	r.again(t, 2048, 200, 64)
	tells(t, Load(r.f, []api.Item{f("/g/y", "")}), api.ErrInodes)
}

// model is a tree told a second time: what stands at each path.
type model map[string]api.Item

// items are what a model has, as Tree tells them.
func (m model) items() []api.Item {
	var l []api.Item
	for _, x := range m {
		l = append(l, x)
	}
	return laid(l)
}

// rename makes a be b.
func (m model) rename(a, b string) {
	if a == b {
		return
	}
	var moved []api.Item
	for p, x := range m {
		if rest, below := strings.CutPrefix(p, a); below && (rest == "" || rest[0] == '/') {
			x.Path = b + rest
			moved = append(moved, x)
			delete(m, p)
		}
	}
	for _, x := range moved {
		m[x.Path] = x
	}
}

// change does something by chance with the tree, and, if it was done, with the model.
func (m model) change(r *rig, g *rand.Rand) {
	some := func() string {
		p := ""
		for range 1 + g.Intn(3) {
			p += "/" + []string{"a", "a+", "b", "B", "a.b", "c"}[g.Intn(6)]
		}
		return p
	}
	p, q := some(), some()
	b := make([]byte, g.Intn(10)*g.Intn(200))
	g.Read(b)
	switch g.Intn(6) {
	case 0, 1:
		if r.f.Mkdir(p) == nil {
			m[p] = d(p)
		}
	case 2, 3:
		if r.f.Put(p, b) == nil {
			m[p] = f(p, string(b))
		}
	case 4:
		if r.f.Rename(p, q) == nil {
			m.rename(p, q)
		}
	case 5:
		if r.f.Remove(p) == nil {
			delete(m, p)
		}
	}
}

// TestModel: a tree that chance made is told as it is, and what is told of it is laid as it is.
func TestModel(t *testing.T) { // 13.1, 13.2, W8
	items := 0
	for seed := range 20 {
		g := rand.New(rand.NewSource(int64(seed)))
		blocks, inodes, reserve := 200+g.Intn(200), 15+g.Intn(40), g.Intn(20)
		r := made(t, blocks, inodes, reserve)
		m := model{}
		for i := range 200 {
			m.change(r, g)
			if i%20 == 19 {
				r.has(t, m.items()...)
				r.again(t, blocks, inodes, reserve)
				items += len(m)
			}
		}
	}
	if items < 1000 {
		t.Error(items)
	}
}
