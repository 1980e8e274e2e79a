package fs

import (
	"bytes"
	"fmt"
	"maps"
	"math/rand"
	"slices"
	"strconv"
	"strings"
	"testing"

	"credenza/api"
	"credenza/fault"
)

// thing is a file or a directory of a model: chapter 11 told a second time, by maps and pointers.
type thing struct {
	dir   bool
	b     []byte
	kids  map[string]*thing
	id    int
	held  int
	named bool
}

// model is a tree in memory.
type model struct {
	inodes, reserve, data int
	root                  *thing
	ids                   map[int]*thing
}

// modelled is the model of an empty tree.
func modelled(inodes, reserve, data int) *model {
	root := &thing{dir: true, kids: map[string]*thing{}, id: 1, named: true}
	return &model{inodes: inodes, reserve: reserve, data: data, root: root, ids: map[int]*thing{1: root}}
}

// clone is another model like m.
func (m *model) clone() *model {
	c := &model{inodes: m.inodes, reserve: m.reserve, data: m.data, ids: map[int]*thing{}}
	for id, x := range m.ids {
		y := *x
		y.b = slices.Clone(x.b)
		c.ids[id] = &y
	}
	for _, x := range c.ids {
		x.kids = maps.Clone(x.kids)
		for s, k := range x.kids {
			x.kids[s] = c.ids[k.id]
		}
	}
	c.root = c.ids[1]
	return c
}

// opened is the model behind an Open.
func (m *model) opened() *model {
	c := m.clone()
	for id, x := range c.ids {
		x.held = 0
		if !x.named {
			delete(c.ids, id)
		}
	}
	return c
}

// text is the model as tree tells it.
func (m *model) text() string { return m.root.text("") }

func (x *thing) text(path string) string {
	all := ""
	for _, s := range slices.Sorted(maps.Keys(x.kids)) {
		p, k := path+"/"+s, x.kids[s]
		if k.dir {
			all += p + "/ " + k.text(p)
		} else {
			all += fmt.Sprintf("%s=%q ", p, k.b)
		}
	}
	return all
}

// free is how many blocks are free.
func (m *model) free() int {
	n := m.data
	for _, x := range m.ids {
		n -= had(len(x.b)) + had(32*len(x.kids))
	}
	return n
}

// full says whether a step may not take so many blocks.
func (m *model) full(need int, all bool) bool {
	left := m.free() - need
	return need > 0 && (left < 0 || !all && left < m.reserve)
}

// more is how many more blocks bytes have.
func more(was, now int) int { return max(0, had(now)-had(was)) }

// split is the names of a path.
func split(path string) ([]string, bool) {
	if path == "/" {
		return nil, true
	}
	if !strings.HasPrefix(path, "/") {
		return nil, false
	}
	l := strings.Split(path[1:], "/")
	for _, s := range l {
		if s == "" || len(s) > 27 || s == "." || s == ".." || strings.Trim(s, "abcdefghijklmnopqrstuvwxyzABCDEFGHIJKLMNOPQRSTUVWXYZ0123456789.+-_~") != "" {
			return nil, false
		}
	}
	return l, len(l) <= 6
}

// walk goes down l.
func (m *model) walk(l []string) (*thing, api.Errno) {
	x := m.root
	for _, s := range l {
		if !x.dir {
			return nil, api.ErrNotDir
		}
		if x = x.kids[s]; x == nil {
			return nil, api.ErrNone
		}
	}
	return x, 0
}

// up goes down to the directory of l.
func (m *model) up(l []string) (*thing, api.Errno) {
	x, n := m.walk(l[:len(l)-1])
	if n == 0 && !x.dir {
		return nil, api.ErrNotDir
	}
	return x, n
}

// add makes a thing.
func (m *model) add(d *thing, s string, x *thing) {
	x.id, x.named = 1, true
	for m.ids[x.id] != nil {
		x.id++
	}
	m.ids[x.id] = x
	d.kids[s] = x
}

// gone takes a thing away that has no name any more.
func (m *model) gone(x *thing) {
	x.named = false
	if x.held == 0 {
		delete(m.ids, x.id)
	}
}

// tall is how far below x something is.
func (x *thing) tall() int {
	n := 0
	for _, k := range x.kids {
		n = max(n, 1+k.tall())
	}
	return n
}

// op is a call.
type op struct {
	kind     string
	a, b     string
	id, n, k int
	data     []byte
}

// name is what its Faults name.
func (o op) name() string {
	switch o.kind {
	case "loose", "read", "write", "cut", "size":
		return strconv.Itoa(o.id)
	case "room", "check":
		return ""
	}
	return o.a
}

// do does a call on a tree, and tells its answer as a text.
func (o op) do(f *FS) (string, error) {
	switch o.kind {
	case "make":
		return "", f.Make(o.a)
	case "mkdir":
		return "", f.Mkdir(o.a)
	case "remove":
		return "", f.Remove(o.a)
	case "rename":
		return "", f.Rename(o.a, o.b)
	case "put":
		return "", f.Put(o.a, o.data)
	case "keep":
		return "", f.Keep(o.a, o.data)
	case "get":
		b, err := f.Get(o.a)
		return string(b), err
	case "list":
		l, err := f.List(o.a)
		return strings.Join(l, " "), err
	case "stat":
		x, err := f.Stat(o.a)
		return fmt.Sprint(x), err
	case "room":
		x, err := f.Room()
		return fmt.Sprint(x), err
	case "hold":
		id, err := f.Hold(o.a)
		return fmt.Sprint(id), err
	case "loose":
		return "", f.Loose(o.id)
	case "read":
		b, err := f.Read(o.id, o.n, o.k)
		return string(b), err
	case "write":
		return "", f.Write(o.id, o.n, o.data)
	case "cut":
		return "", f.Cut(o.id, o.n)
	case "size":
		n, err := f.Size(o.id)
		return fmt.Sprint(n), err
	}
	return "", f.Check()
}

// nothing is the text of an answer beside an error.
func (o op) nothing() string {
	switch o.kind {
	case "stat":
		return fmt.Sprint(api.Info{})
	case "room":
		return fmt.Sprint(api.Room{})
	case "hold", "size":
		return "0"
	}
	return ""
}

// does is what a call answers on a model, which then is as behind it.
func (m *model) does(o op) (string, api.Errno) {
	switch o.kind {
	case "make", "mkdir":
		return "", m.make(o.a, o.kind == "mkdir")
	case "remove":
		return "", m.remove(o.a)
	case "rename":
		return "", m.rename(o.a, o.b)
	case "put", "keep":
		return "", m.put(o.a, o.data, o.kind == "keep")
	case "get", "list", "stat", "hold":
		return m.look(o)
	case "room":
		return fmt.Sprint(api.Room{Free: m.free(), Reserve: m.reserve, Inodes: m.inodes - len(m.ids), Data: m.data}), 0
	case "check":
		return "", 0
	}
	x := m.ids[o.id]
	if x == nil || x.held == 0 {
		return "", api.ErrHeld
	}
	return m.bytes(o, x)
}

func (m *model) make(path string, dir bool) api.Errno {
	l, ok := split(path)
	if !ok {
		return api.ErrName
	}
	if len(l) == 0 {
		return api.ErrExists
	}
	d, n := m.up(l)
	if n != 0 {
		return n
	}
	s := l[len(l)-1]
	if d.kids[s] != nil {
		return api.ErrExists
	}
	if n := m.fits(d, 0, false, true); n != 0 {
		return n
	}
	x := &thing{dir: dir}
	if dir {
		x.kids = map[string]*thing{}
	}
	m.add(d, s, x)
	return 0
}

// fits is what a new name in d tells, with an inode of so many bytes or without.
func (m *model) fits(d *thing, size int, all, inode bool) api.Errno {
	if len(d.kids) >= 120 {
		return api.ErrMany
	}
	if inode && len(m.ids) == m.inodes {
		return api.ErrInodes
	}
	if m.full(more(32*len(d.kids), 32*len(d.kids)+32)+more(0, size), all) {
		return api.ErrFull
	}
	return 0
}

func (m *model) remove(path string) api.Errno {
	l, ok := split(path)
	if !ok {
		return api.ErrName
	}
	if len(l) == 0 {
		return api.ErrArg
	}
	x, n := m.walk(l)
	if n != 0 {
		return n
	}
	if len(x.kids) > 0 {
		return api.ErrNotEmpty
	}
	d, _ := m.up(l)
	delete(d.kids, l[len(l)-1])
	m.gone(x)
	return 0
}

func (m *model) rename(a, b string) api.Errno {
	from, ok := split(a)
	to, good := split(b)
	if !ok || !good {
		return api.ErrName
	}
	if a == "/" || b == "/" {
		return api.ErrArg
	}
	x, n := m.walk(from)
	if n != 0 {
		return n
	}
	if a == b {
		return 0
	}
	if strings.HasPrefix(b, a+"/") {
		return api.ErrLoop
	}
	if len(to)+x.tall() > 6 {
		return api.ErrName
	}
	e, n := m.up(to)
	if n != 0 {
		return n
	}
	d, _ := m.up(from)
	s := to[len(to)-1]
	y := e.kids[s]
	switch {
	case y != nil && x.dir:
		return api.ErrExists
	case y != nil && y.dir:
		return api.ErrDir
	case y != nil:
		m.gone(y)
	case d != e:
		if n := m.fits(e, 0, false, false); n != 0 {
			return n
		}
	}
	delete(d.kids, from[len(from)-1])
	e.kids[s] = x
	return 0
}

func (m *model) put(path string, b []byte, all bool) api.Errno {
	l, ok := split(path)
	if !ok {
		return api.ErrName
	}
	if len(l) == 0 {
		return api.ErrDir
	}
	if len(b) > 4000 {
		return api.ErrBig
	}
	d, n := m.up(l)
	if n != 0 {
		return n
	}
	s := l[len(l)-1]
	x := d.kids[s]
	switch {
	case x != nil && x.dir:
		return api.ErrDir
	case x != nil && m.full(more(len(x.b), len(b)), all):
		return api.ErrFull
	case x == nil:
		if n := m.fits(d, len(b), all, true); n != 0 {
			return n
		}
		x = &thing{}
		m.add(d, s, x)
	}
	x.b = slices.Clone(b)
	return 0
}

func (m *model) look(o op) (string, api.Errno) {
	l, ok := split(o.a)
	if !ok {
		return o.nothing(), api.ErrName
	}
	x, n := m.walk(l)
	if n != 0 {
		return o.nothing(), n
	}
	switch {
	case o.kind == "stat":
		return fmt.Sprint(api.Info{Dir: x.dir, Size: len(x.b) + len(x.kids), Held: x.held}), 0
	case o.kind == "list" && !x.dir:
		return "", api.ErrNotDir
	case o.kind == "list":
		return strings.Join(slices.Sorted(maps.Keys(x.kids)), " "), 0
	case x.dir:
		return o.nothing(), api.ErrDir
	case o.kind == "get":
		return string(x.b), 0
	}
	x.held++
	return fmt.Sprint(x.id), 0
}

func (m *model) bytes(o op, x *thing) (string, api.Errno) {
	switch o.kind {
	case "loose":
		if x.held--; !x.named {
			m.gone(x)
		}
		return "", 0
	case "size":
		return fmt.Sprint(len(x.b)), 0
	case "read":
		if o.n < 0 || o.k < 0 {
			return "", api.ErrArg
		}
		b := x.b[min(o.n, len(x.b)):]
		return string(b[:min(o.k, len(b))]), 0
	}
	end := o.n
	if o.kind == "write" {
		end += len(o.data)
	}
	switch {
	case o.n < 0:
		return "", api.ErrArg
	case end > 4000:
		return "", api.ErrBig
	case o.kind == "write" && len(o.data) == 0:
		return "", 0
	case m.full(more(len(x.b), end), false):
		return "", api.ErrFull
	}
	x.b = append(x.b, make([]byte, max(0, end-len(x.b)))...)
	if o.kind == "cut" {
		x.b = x.b[:end]
	}
	copy(x.b[o.n:], o.data)
	return "", 0
}

// paths are all paths of the model but the root's.
func (x *thing) paths(path string) []string {
	var l []string
	for _, s := range slices.Sorted(maps.Keys(x.kids)) {
		l = append(l, path+"/"+s)
		l = append(l, x.kids[s].paths(path+"/"+s)...)
	}
	return l
}

// path is some path: one that is there, one beside or below it, the root, or none at all.
func (m *model) path(g *rand.Rand) string {
	l := append(m.root.paths(""), "", "")
	p := l[g.Intn(len(l))]
	switch g.Intn(20) {
	case 0:
		bad := wrongPaths()
		return bad[g.Intn(len(bad))]
	case 1:
		return p + "/q/" + strconv.Itoa(g.Intn(3))
	case 2:
		return p + "/"
	case 3, 4, 5, 6, 7, 8, 9:
		return p + "/" + string(rune('a'+g.Intn(12)))
	}
	if p == "" {
		return "/"
	}
	return p
}

// size is some size, often at an edge.
func size(g *rand.Rand) int {
	l := []int{0, 1, 127, 128, 129, 300, 1023, 1024, 1025, 1152, 1153, 2048, 3999, 4000, 4001}
	if g.Intn(3) > 0 {
		return g.Intn(700)
	}
	return l[g.Intn(len(l))]
}

// call is some call.
func (m *model) call(g *rand.Rand) op {
	kinds := []string{"make", "make", "mkdir", "mkdir", "mkdir", "remove", "remove", "remove", "rename", "rename", "rename", "rename", "rename", "put", "put", "put", "put", "keep", "get", "list", "stat", "hold", "hold", "loose", "loose", "read", "write", "write", "cut", "cut", "size", "room"}
	o := op{kind: kinds[g.Intn(len(kinds))], a: m.path(g), b: m.path(g), data: some(g.Intn(256), size(g))}
	o.n, o.k = size(g)-g.Intn(2), size(g)-g.Intn(2)
	var held []int
	for id, x := range m.ids {
		if x.held > 0 {
			held = append(held, id)
		}
	}
	slices.Sort(held)
	o.id = g.Intn(m.inodes+3) - 1
	if len(held) > 0 && g.Intn(8) > 0 {
		o.id = held[g.Intn(len(held))]
	}
	return o
}

// step does some call on both, and looks whether they answer alike. An error has written nothing.
func (m *model) step(t *testing.T, r *rig, o op) {
	t.Helper()
	writes := r.d.Writes()
	s, err := o.do(r.f)
	want, n := m.does(o)
	if n != 0 {
		want = o.nothing()
	}
	if s != want || n == 0 && err != nil || n != 0 && !is(err, o.kind, o.name(), n) {
		t.Fatalf("%.60v: %q %s, not %q %d", o, s, fault.Text(err), want, n)
	}
	if n != 0 && r.d.Writes() != writes {
		t.Fatalf("%.60v: written", o)
	}
}

// is looks whether the tree is as the model says, and sound.
func (m *model) is(t *testing.T, r *rig) {
	t.Helper()
	if s := tree(t, r.f, "/"); s != m.text() {
		t.Fatalf("%s, not %s", s, m.text())
	}
	r.left(t, m.free(), m.inodes-len(m.ids))
	done(t, r.f.Check())
	for id, x := range m.ids {
		if x.held == 0 || x.named {
			continue
		}
		if b, err := r.f.Read(id, 0, 4000); !bytes.Equal(b, x.b) || err != nil {
			t.Fatal(id, err)
		}
	}
}

// shapes are the disks that lives are lived on: some with few blocks, some with few inodes.
func shapes() [][3]int {
	return [][3]int{{128, 8, 0}, {128, 16, 2}, {128, 23, 0}, {160, 20, 5}, {256, 12, 64}, {256, 40, 10}, {1100, 200, 64}}
}

// TestLives: whatever is called, the answers are those of the model.
func TestLives(t *testing.T) { // 11.2 to 11.5, W1, W3, W6
	told := map[string]int{}
	for seed := range 30 {
		x := shapes()[seed%len(shapes())]
		g := rand.New(rand.NewSource(int64(seed)))
		r := made(t, x[0], x[1], x[2])
		m := modelled(x[1], x[2], x[0]-96-x[1]-(x[0]+1023)/1024)
		for i := range 400 {
			o := m.call(g)
			_, n := m.clone().does(o)
			told[fmt.Sprint(o.kind, " ", int(n))]++
			m.step(t, r, o)
			if i%10 == 0 {
				m.is(t, r)
			}
			if g.Intn(100) == 0 {
				r.open(t)
				m = m.opened()
				m.is(t, r)
			}
		}
		m.is(t, r)
	}
	for _, s := range []string{"make 15", "make 16", "mkdir 15", "put 15", "put 16", "put 5", "keep 15", "write 15", "cut 15", "rename 0", "rename 20", "rename 13", "rename 12", "rename 14", "rename 15", "remove 17", "loose 0", "loose 21"} {
		if told[s] == 0 {
			t.Error("never told:", s)
		}
	}
}

// TestDeaths: whenever the disk dies, also within Open, again and again, the tree is as behind the last step, or as behind the one that was under way.
func TestDeaths(t *testing.T) { // 11.1, 11.6, W2, W3
	died, whole := 0, 0
	for seed := range 60 {
		x := shapes()[seed%len(shapes())]
		g := rand.New(rand.NewSource(int64(seed) + 1000))
		r := made(t, x[0], x[1], x[2])
		m := modelled(x[1], x[2], x[0]-96-x[1]-(x[0]+1023)/1024)
		for range 20 {
			r.d.Fuse(g.Intn(200))
			for range 60 {
				o := m.call(g)
				next := m.clone()
				want, n := next.does(o)
				s, err := o.do(r.f)
				if fault.Num(err) == api.ErrDead {
					tells(t, err, o.kind, o.name(), api.ErrDead)
					if s != o.nothing() {
						t.Fatalf("%.60v: %q", o, s)
					}
					died++
					whole += m.died(t, r, g, next)
					m = m.opened()
					break
				}
				if n != fault.Num(err) || err == nil && s != want {
					t.Fatalf("%.60v: %q %s, not %q %d", o, s, fault.Text(err), want, n)
				}
				m = next
			}
			r.d.Power()
		}
		m.is(t, r)
	}
	if died < 500 || whole < 50 || whole > died-50 {
		t.Error(died, whole)
	}
}

// died opens the tree behind a death, with some more deaths, and makes m what it is: m, or next, that of the step under way. It is 1 of next.
func (m *model) died(t *testing.T, r *rig, g *rand.Rand, next *model) int {
	t.Helper()
	for range g.Intn(4) {
		r.d.Power()
		r.d.Fuse(g.Intn(30))
		if _, err := Open(r.d); err != nil {
			tells(t, err, "open", "", api.ErrDead)
		}
	}
	r.d.Power()
	r.open(t)
	was, will := m.opened(), next.opened()
	switch tree(t, r.f, "/") {
	case will.text():
		*m = *will
	case was.text():
		*m = *was
	default:
		t.Fatalf("%s, neither %s nor %s", tree(t, r.f, "/"), was.text(), will.text())
	}
	m.is(t, r)
	if m.text() == will.text() && was.text() != will.text() {
		return 1
	}
	return 0
}
