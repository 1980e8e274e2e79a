package file

import (
	"fmt"
	"math/rand"
	"slices"
	"testing"

	"credenza/api"
	"credenza/fault"
)

// content is what a file has, of a model: chapter 12 told a second time, by maps and pointers.
type content struct{ b []byte }

// opened is a handle of a model.
type opened struct {
	c        *content
	mode, at int
}

// model is some files in one directory, which has /d beside them, and their handles.
type model struct {
	names map[string]*content
	open  map[int]*opened
}

// call is a call, of a handle or of the tree.
type call struct {
	kind string
	a, b string
	h, n int
	data []byte
}

// name is what its Faults name.
func (c call) name() string {
	if c.kind == "open" {
		return c.a
	}
	return fmt.Sprint(c.h)
}

// do does a call, and tells its answer as a text.
func (c call) do(r *rig) (string, error) {
	switch c.kind {
	case "open":
		h, err := r.x.Open(c.a, c.n)
		return fmt.Sprint(h), err
	case "read":
		b, err := r.x.Read(c.h, c.n)
		return string(b), err
	case "write":
		return "", r.x.Write(c.h, c.data)
	case "seek":
		return "", r.x.Seek(c.h, c.n)
	case "cut":
		return "", r.x.Cut(c.h, c.n)
	case "close":
		return "", r.x.Close(c.h)
	case "tell":
		y, err := r.x.Tell(c.h)
		return fmt.Sprint(y), err
	case "len":
		return fmt.Sprint(r.x.Len()), nil
	}
	return "", c.tree(r)
}

// tree does a call of the tree.
func (c call) tree(r *rig) error {
	switch c.kind {
	case "put":
		return r.f.Put(c.a, c.data)
	case "rename":
		return r.f.Rename(c.a, c.b)
	}
	return r.f.Remove(c.a)
}

// nothing is the text of an answer beside an error.
func (c call) nothing() string {
	switch c.kind {
	case "open":
		return "0"
	case "tell":
		return fmt.Sprint(api.Handle{})
	}
	return ""
}

// does is what a call answers on the model, which then is as behind it.
func (m *model) does(c call) (string, api.Errno) {
	switch c.kind {
	case "open":
		return m.begin(c.a, c.n)
	case "len":
		return fmt.Sprint(len(m.open)), 0
	case "put", "rename", "remove":
		return "", m.tree(c)
	}
	o := m.open[c.h]
	if o == nil {
		return c.nothing(), api.ErrHandle
	}
	switch c.kind {
	case "close":
		delete(m.open, c.h)
		return "", 0
	case "tell":
		return fmt.Sprint(api.Handle{Mode: o.mode, At: o.at, Size: len(o.c.b)}), 0
	case "seek":
		if c.n < 0 || c.n > 4000 {
			return "", api.ErrArg
		}
		o.at = c.n
		return "", 0
	case "read":
		if c.n < 0 {
			return "", api.ErrArg
		}
		b := o.c.b[min(o.at, len(o.c.b)):]
		b = b[:min(c.n, len(b))]
		o.at += len(b)
		return string(b), 0
	}
	return "", o.change(c)
}

func (m *model) begin(path string, mode int) (string, api.Errno) {
	switch {
	case mode < 1 || mode > 4:
		return "0", api.ErrArg
	case len(m.open) == 16:
		return "0", api.ErrMany
	case path == "/d" || path == "/":
		return "0", api.ErrDir
	case path == "d":
		return "0", api.ErrName
	case m.names[path] == nil && mode < 3:
		return "0", api.ErrNone
	case m.names[path] == nil:
		m.names[path] = &content{}
	}
	h := 1
	for m.open[h] != nil {
		h++
	}
	m.open[h] = &opened{c: m.names[path], mode: mode}
	return fmt.Sprint(h), 0
}

func (m *model) tree(c call) api.Errno {
	if c.kind != "put" && m.names[c.a] == nil {
		return api.ErrNone
	}
	switch c.kind {
	case "put":
		if m.names[c.a] == nil {
			m.names[c.a] = &content{}
		}
		m.names[c.a].b = slices.Clone(c.data)
	case "rename":
		if c.a != c.b {
			m.names[c.b] = m.names[c.a]
			delete(m.names, c.a)
		}
	case "remove":
		delete(m.names, c.a)
	}
	return 0
}

// change writes or cuts.
func (o *opened) change(c call) api.Errno {
	if o.mode == api.MRead {
		return api.ErrState
	}
	at, end := o.at, c.n
	if c.kind == "write" {
		if o.mode == api.MAppend {
			at = len(o.c.b)
		}
		end = at + len(c.data)
	}
	switch {
	case end < 0:
		return api.ErrArg
	case end > 4000:
		return api.ErrBig
	}
	if c.kind == "cut" {
		o.c.b = append(o.c.b, make([]byte, max(0, end-len(o.c.b)))...)[:end]
		return 0
	}
	o.at = end
	if len(c.data) > 0 {
		o.c.b = append(o.c.b, make([]byte, max(0, end-len(o.c.b)))...)
		copy(o.c.b[at:], c.data)
	}
	return 0
}

// any is some call.
func (m *model) any(g *rand.Rand) call {
	kinds := []string{"open", "open", "open", "read", "read", "write", "write", "write", "seek", "seek", "cut", "close", "close", "tell", "tell", "len", "put", "rename", "remove"}
	names := []string{"/a", "/b", "/d/c", "/d/e", "/f"}
	c := call{kind: kinds[g.Intn(len(kinds))], a: names[g.Intn(len(names))], b: names[g.Intn(len(names))], h: g.Intn(18), n: size(g) - g.Intn(2)}
	if c.kind == "open" {
		c.n = g.Intn(5)
		if g.Intn(8) > 0 {
			c.n = 1 + g.Intn(4)
		}
		if g.Intn(10) == 0 {
			c.a = []string{"/", "/d", "d"}[g.Intn(3)]
		}
	}
	c.data = make([]byte, min(size(g), 4000))
	if c.kind == "write" && g.Intn(10) == 0 {
		c.data = make([]byte, 4001)
	}
	g.Read(c.data)
	return c
}

// size is some size, often at an edge.
func size(g *rand.Rand) int {
	l := []int{0, 1, 127, 128, 129, 1024, 1025, 3999, 4000, 4001}
	if g.Intn(3) > 0 {
		return g.Intn(300)
	}
	return l[g.Intn(len(l))]
}

// TestLives: whatever is called, the answers are those of the model.
func TestLives(t *testing.T) { // 12.1, 12.2, 12.3, W1
	seen := map[string]int{}
	for seed := range 20 {
		g := rand.New(rand.NewSource(int64(seed)))
		r := made(t, 2048, 40, 5)
		done(t, r.f.Mkdir("/d"))
		m := &model{names: map[string]*content{}, open: map[int]*opened{}}
		for range 1000 {
			c := m.any(g)
			s, err := c.do(r)
			want, n := m.does(c)
			seen[fmt.Sprint(c.kind, " ", int(n))]++
			told := err == nil
			if n != 0 {
				told = fault.Num(err) == n && (c.kind == "rename" || c.kind == "remove" || is(err, c.name(), n))
			}
			if s != want || !told {
				t.Fatalf("%d %.60v: %.60q %s, not %.60q %d", seed, c, s, fault.Text(err), want, n)
			}
		}
		m.is(t, r)
	}
	for _, s := range []string{"open 0", "open 1", "open 10", "open 11", "open 13", "open 65", "read 0", "read 1", "read 19", "write 0", "write 5", "write 7", "write 19", "seek 0", "seek 1", "seek 19", "cut 0", "cut 1", "cut 5", "cut 7", "cut 19", "close 0", "close 19", "tell 0", "tell 19"} {
		if seen[s] == 0 {
			t.Error("never told:", s)
		}
	}
}

// is looks whether the files are as the model says, as long as they are open and behind that.
func (m *model) is(t *testing.T, r *rig) {
	t.Helper()
	done(t, r.f.Check())
	for p, c := range m.names {
		times := 0
		for _, o := range m.open {
			if o.c == c {
				times++
			}
		}
		if r.has(t, p, string(c.b)); r.held(t, p) != times {
			t.Error(p, r.held(t, p), times)
		}
	}
	for h := range m.open {
		done(t, r.x.Close(h))
	}
	done(t, r.f.Check())
	if room, err := r.f.Room(); room.Inodes != 40-2-len(m.names) || err != nil {
		t.Error(room, err, len(m.names))
	}
}
