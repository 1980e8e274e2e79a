package inode

import (
	"bytes"
	"errors"
	"math"
	"math/rand"
	"slices"
	"strconv"
	"testing"

	"credenza/alloc"
	"credenza/api"
	"credenza/budget"
	"credenza/fault"
)

func TestDead(t *testing.T) { // 8.1 and Ways
	r := made(t, 3, 60, 80)
	r.make(t, 1, 1, 2)
	done(t, r.x.Write(1, 0, some(1, 2000)))
	done(t, r.c.Flush())
	r.d.Fuse(0)
	r.all(t, 1, "cache 10: journal: disk 10: error 50", true, true)
	id, err := r.x.Make(1)
	if id != 0 {
		t.Error(id)
	}
	tells(t, err, "", "inode: inode 1: cache 10: journal: disk 10: error 50")
	n, err := r.x.Left()
	if n != 0 {
		t.Error(n)
	}
	tells(t, err, "", "inode: inode 1: cache 10: journal: disk 10: error 50")
	_, err = r.x.Make(0)
	tells(t, err, "", "inode: error 1")
	r.d.Power()
	r.holds(t, 1, some(1, 2000))
	r.sound(t)
}

// TestDeadWithin: a disk that is dead within a step leaves what the step has done so far.
func TestDeadWithin(t *testing.T) { // 8.1 and Ways
	r := made(t, 3, 60, 80)
	r.make(t, 1, 1, 2)
	done(t, r.x.Write(1, 0, some(1, 2000)))
	done(t, r.c.Flush())
	done(t, r.x.Write(1, 10, some(2, 20)))
	done(t, r.x.Write(2, 0, some(3, 100)))
	changed := r.c.Changed()
	r.d.Fuse(0)
	for range 2 {
		tells(t, r.x.Write(2, 100, some(4, 200)), "2", "inode 2: cache 318: journal: disk 318: error 50")
		says(t, r.x.Write(1, 0, some(5, 300)), 1, api.ErrDead)
		says(t, r.x.Cut(2, 500), 2, api.ErrDead)
		says(t, r.x.Free(1), 1, api.ErrDead)
		tells(t, r.x.Write(2, 90, some(4, 11*128)), "2", "inode 2: cache 318: journal: disk 318: error 50")
		if l := r.c.Changed(); !slices.Equal(l, changed) {
			t.Fatal(l, changed)
		}
	}
	r.holds(t, 2, some(3, 100)) // all of it is in the step
	r.d.Power()
	want := some(1, 2000)
	copy(want[10:], some(2, 20))
	r.holds(t, 1, want)
	r.sound(t)
	done(t, r.c.Flush())
	r.open(t, 80)
	r.holds(t, 1, want)
	r.holds(t, 2, some(3, 100))
	r.sound(t)
}

// TestDeadHalf: of an inode that the step has in part all that is still to be read is told by the disk.
func TestDeadHalf(t *testing.T) { // 8.1 and Ways
	r := made(t, 3, 60, 80)
	r.make(t, 1, 1)
	done(t, r.x.Write(1, 0, some(1, 2000)))
	done(t, r.c.Flush())
	for _, x := range []struct {
		no   int
		text string
	}{
		{at, "alloc 300: cache 1: journal: disk 1: error 50"},
		{bits, "cache 308: journal: disk 308: error 50"},
		{from + 8, ""},
	} {
		done(t, r.c.Write(x.no, 0, nil)) // so the step has it
		changed := r.c.Changed()
		r.d.Fuse(0)
		if n, err := r.x.Size(1); n != 2000 || err != nil {
			t.Error(n, err)
		}
		if x.text != "" {
			r.all(t, 1, x.text, false, false)
		}
		b, err := r.x.Read(1, 0, 2000)
		if len(b) != 0 {
			t.Error(b)
		}
		says(t, err, 1, api.ErrDead)
		if l := r.c.Changed(); !slices.Equal(l, changed) {
			t.Error(l, changed)
		}
		r.d.Power()
	}
	r.d.Fuse(0)
	if l, err := r.x.Blocks(1); len(l) != 17 || err != nil { // all that it needs is there
		t.Error(l, err)
	}
	r.d.Power()
	r.holds(t, 1, some(1, 2000))
	r.sound(t)
}

// TestTooMany: a step that may not change so many blocks tells what the cache told, and is as it was, by all that can be asked.
func TestTooMany(t *testing.T) { // 8.1 and Ways; DOC.md, rule 8
	full := 0
	for most := 1; most <= 45; most++ {
		r := made(t, 3, 1100, 80)
		r.make(t, 1, 1, 2)
		for range 1000 { // so that the bits of what is taken next lie in both blocks
			_, err := r.m.Take()
			done(t, err)
		}
		done(t, r.x.Write(1, 0, some(1, 4000)))
		done(t, r.c.Flush())
		r.open(t, most)
		for _, before := range []int{0, 1, 2} {
			for _, do := range []func() error{
				func() error { return r.x.Free(1) },
				func() error { return r.x.Cut(1, 0) },
				func() error { return r.x.Cut(1, 1500) },
				func() error { return r.x.Cut(1, 3990) },
				func() error { return r.x.Write(1, 0, some(2, 4000)) },
				func() error { return r.x.Write(2, 0, some(3, 1)) },
				func() error { return r.x.Write(2, 0, some(3, 4000)) },
				func() error { return r.x.Cut(2, 1025) },
				func() error { _, err := r.x.Make(1); return about(7, err) },
			} {
				for i := range min(before, most) {
					done(t, r.c.Write(from+20+i, 5, some(4, 9)))
				}
				changed, all := r.image(t)
				if err := do(); err != nil {
					full++
					if !errors.Is(err, api.ErrBig) || fault.Num(err) != api.ErrBig {
						t.Fatal(fault.Text(err))
					}
					r.same(t, changed, all)
				}
				r.c.Drop()
			}
		}
		r.holds(t, 1, some(1, 4000))
		r.holds(t, 2, nil)
	}
	if full < 200 { // or the test would say little
		t.Error("only", full)
	}
}

// TestTooManyOrder: that blocks are wanting is told ahead of what the cache would tell.
func TestTooManyOrder(t *testing.T) { // 8.1; DOC.md, rule 5
	r := made(t, 2, 5, 1)
	r.make(t, 1, 1)
	tells(t, r.x.Write(1, 0, some(1, 700)), "1", "inode 1: error 15")
	tells(t, r.x.Write(1, 0, some(1, 600)), "1", "inode 1: alloc: cache 1: error 5")
	_, err := r.x.Make(1)
	tells(t, err, "", "inode: cache 11: error 5")
	tells(t, r.x.Write(1, 0, some(1, 4001)), "1", "inode 1: error 5")
}

// TestBelow: where the cache has no block for an inode, for bits or for bytes, each call says so, and nothing is changed.
func TestBelow(t *testing.T) { // 8.1 and Ways
	r := made(t, 3, 60, 80)
	for _, from := range []int{own, blocks, math.MaxInt} {
		x, err := New(r.c, r.m, from, 3)
		done(t, err)
		(&rig{x: x}).all(t, 1, "cache "+strconv.Itoa(from)+": error 1", true, true)
		_, err = x.Make(1)
		tells(t, err, "", "inode: inode 1: cache "+strconv.Itoa(from)+": error 1")
		if from == math.MaxInt {
			_, err = x.Kind(3)
			says(t, err, 3, api.ErrArg)
		}
	}
	r.make(t, 1, 1, 1)
	changed, all := r.image(t)
	noBits, err := alloc.New(r.c, own, from, 60)
	done(t, err)
	x, err := New(r.c, noBits, at, 3)
	done(t, err)
	tells(t, x.Write(1, 0, some(1, 5)), "1", "inode 1: alloc: cache 1700: error 1")
	for _, first := range []int{own - 2, own, 1 << 32, 1 << 40, math.MaxInt - 60} {
		m, err := alloc.New(r.c, bits, first, 60)
		done(t, err)
		x, err := New(r.c, m, at, 3)
		done(t, err)
		tells(t, x.Write(1, 0, some(1, 300)), "1", "inode 1: cache "+strconv.Itoa(max(first, own))+": error 1")
		tells(t, x.Cut(1, 300), "1", "inode 1: cache "+strconv.Itoa(max(first, own))+": error 1")
		if n, err := m.Free(); n != 60 || err != nil {
			t.Error(n, err)
		}
		r.same(t, changed, all)
	}
}

// broken looks whether inode 1 is told to be of a wrong form by all that read so far, and nothing is changed by asking.
func (r *rig) broken(t *testing.T, kind, size bool) {
	t.Helper()
	changed, all := r.image(t)
	r.all(t, 1, "error 3", kind, size)
	if kind {
		_, err := r.x.Left()
		tells(t, err, "", "inode: inode 1: error 3")
		_, err = r.x.Make(1)
		tells(t, err, "", "inode: inode 1: error 3")
	} else if k, err := r.x.Kind(1); k != 1 || err != nil {
		t.Error(k, err)
	}
	r.same(t, changed, all)
}

// TestForm: an inode's block that no call of a Table wrote is not taken for one.
func TestForm(t *testing.T) { // 8.1, W9
	lay := func(r *rig, at int, b ...byte) {
		done(t, r.c.Write(10, at, b))
	}
	for _, x := range []struct {
		size, at int
		b        []byte
	}{
		{300, 0, []byte{3}}, {300, 0, []byte{255}}, {0, 0, []byte{3}}, // no such kind
		{300, 0, []byte{0}}, {0, 127, []byte{1}}, {0, 3, []byte{1}}, {300, 127, []byte{1}}, {300, 15, []byte{1}}, {4000, 39, []byte{1}}, // bytes behind what it says
		{4000, 1, []byte{15, 161}}, {4000, 1, []byte{255, 255}}, // more than 4,000 bytes
		{300, 1, []byte{0, 0}}, {300, 1, []byte{0, 128}}, {1025, 1, []byte{4, 0}}, // more blocks than bytes
	} {
		r := made(t, 2, 60, 80)
		r.make(t, 1, 1, 1)
		done(t, r.x.Write(1, 0, some(1, x.size)))
		lay(r, x.at, x.b...)
		r.broken(t, true, true)
		if n, err := r.x.Size(2); n != 0 || err != nil {
			t.Error(n, err)
		}
	}
}

// TestFormBlocks: nor are blocks that an inode cannot have.
func TestFormBlocks(t *testing.T) { // 8.1, W3, W9
	number := func(no int) []byte {
		return []byte{byte(no >> 24), byte(no >> 16), byte(no >> 8), byte(no)}
	}
	for _, no := range []int{0, bits, at, from - 1, from + 60, from + 59, from + 1, own, blocks, math.MaxInt32, math.MaxUint32} {
		for i := range 33 {
			r := made(t, 2, 60, 80)
			r.make(t, 1, 1)
			done(t, r.x.Write(1, 0, some(1, 4000)))
			if no == from+i {
				continue
			}
			if i <= 8 {
				done(t, r.c.Write(at, 3+4*i, number(no)))
			} else {
				done(t, r.c.Write(from+8, 4*(i-9), number(no)))
			}
			if n, err := r.x.Size(1); n != 4000 || err != nil {
				t.Error(n, err)
			}
			r.broken(t, false, false)
		}
	}
	r := made(t, 2, 60, 80)
	r.make(t, 1, 1)
	done(t, r.x.Write(1, 0, some(1, 4000)))
	done(t, r.c.Write(from+8, 96, []byte{1})) // behind the last number
	r.broken(t, false, false)
	done(t, r.c.Write(from+8, 96, []byte{0}))
	r.holds(t, 1, some(1, 4000))
	done(t, r.c.Write(at, 1, []byte{0, 200})) // fewer bytes than its blocks hold
	r.broken(t, true, true)
	done(t, r.c.Write(at, 1, []byte{8, 0}))
	r.broken(t, false, false)
	done(t, r.c.Write(at, 1, []byte{15, 160}))
	r.holds(t, 1, some(1, 4000))
	done(t, r.m.Give(from+20))
	r.broken(t, false, false)
}

// TestAnyBytes: whatever lies in the blocks, and wherever they lie, each call ends, and tells a Fault of its own or nothing.
func TestAnyBytes(t *testing.T) { // 8.3, W9, W10
	g := rand.New(rand.NewSource(8))
	number := func() int {
		l := []int{0, 1, 2, 3, 4, 127, 128, 1024, 1025, 3999, 4000, 4001, -1, math.MaxInt, math.MinInt}
		return l[g.Intn(len(l))]
	}
	for range 300 {
		r := made(t, 4, 60, 1+g.Intn(80))
		for range g.Intn(60) {
			no := []int{bits, at, at, at + 1, at + 2, at + 3, from + 8, from + g.Intn(60)}[g.Intn(8)]
			b := make([]byte, 1+g.Intn(40))
			g.Read(b)
			if g.Intn(2) == 0 {
				b = []byte{1, byte(g.Intn(16)), byte(g.Intn(256)), 0, 0, 1, 44, 0, 0, 1, 45}
			}
			r.c.Write(no, g.Intn(2)*g.Intn(80), b)
		}
		if g.Intn(2) == 0 { // the Map's blocks are the inodes' own, or its own bits
			r.m, _ = alloc.New(r.c, bits, g.Intn(12), 60)
			r.x, _ = New(r.c, r.m, at, 4)
		}
		for range 60 {
			id := g.Intn(6)
			var err error
			switch g.Intn(9) {
			case 0:
				_, err = r.x.Make(g.Intn(4))
				id = -1
			case 1:
				err = r.x.Free(id)
			case 2:
				_, err = r.x.Kind(id)
			case 3:
				_, err = r.x.Size(id)
			case 4:
				_, err = r.x.Read(id, number(), number())
			case 5, 6:
				err = r.x.Write(id, number(), make([]byte, g.Intn(2)*g.Intn(4100)))
			case 7:
				err = r.x.Cut(id, number())
			case 8:
				_, err = r.x.Blocks(id)
			}
			if err == nil {
				continue
			}
			name := strconv.Itoa(id)
			if id < 0 {
				name = ""
			}
			if f, ok := err.(*api.Fault); !ok || f.Op != "inode" || f.Name != name {
				t.Fatal(err)
			}
		}
	}
}

// model is what the inodes are to be.
type model struct {
	kinds []int
	bytes [][]byte
}

// clone is another model that goes on by itself.
func (m model) clone() model {
	return model{kinds: slices.Clone(m.kinds), bytes: slices.Clone(m.bytes)}
}

// is says whether the inodes are as the model is.
func (m model) is(r *rig) bool {
	for i, kind := range m.kinds {
		if k, err := r.x.Kind(i + 1); k != kind || err != nil {
			return false
		}
		if b, err := r.x.Read(i+1, 0, 4000); kind != 0 && (err != nil || !bytes.Equal(b, m.bytes[i])) {
			return false
		}
	}
	return true
}

// used is how many blocks the model's inodes have.
func (m model) used() int {
	n := 0
	for _, b := range m.bytes {
		n += budget.Blocks(len(b))
	}
	return n
}

// turn makes an inode of a kind, or free.
func (m model) turn(t *testing.T, r *rig, g *rand.Rand) {
	t.Helper()
	if g.Intn(2) == 0 {
		id, err := r.x.Make(1 + g.Intn(2))
		i := slices.Index(m.kinds, 0)
		if i < 0 {
			tells(t, err, "", "inode: error 16")
			return
		}
		if id != i+1 || err != nil {
			t.Fatal(id, i, err)
		}
		m.kinds[i], _ = r.x.Kind(id)
		m.bytes[i] = nil
		return
	}
	i := g.Intn(len(m.kinds))
	err := r.x.Free(i + 1)
	if m.kinds[i] == 0 {
		says(t, err, i+1, api.ErrNone)
		return
	}
	done(t, err)
	m.kinds[i], m.bytes[i] = 0, nil
}

// change writes or cuts.
func (m model) change(t *testing.T, r *rig, g *rand.Rand) {
	t.Helper()
	i := g.Intn(len(m.kinds))
	at, n := g.Intn(4001), g.Intn(1+g.Intn(4001))
	old := m.bytes[i]
	var now []byte
	var err error
	if g.Intn(3) == 0 {
		now = append(slices.Clone(old), make([]byte, max(0, at-len(old)))...)[:at]
		err = r.x.Cut(i+1, at)
	} else {
		b := some(g.Int()%1000, n)
		now = append(slices.Clone(old), make([]byte, max(0, at+n-len(old)))...)
		copy(now[at:], b)
		if n == 0 {
			now = old
		}
		err = r.x.Write(i+1, at, b)
	}
	switch {
	case m.kinds[i] == 0:
		says(t, err, i+1, api.ErrNone)
	case len(now) > 4000:
		says(t, err, i+1, api.ErrBig)
	case budget.Grow(len(old), len(now)) > r.data-m.used():
		says(t, err, i+1, api.ErrFull)
	default:
		done(t, err)
		m.bytes[i] = now
	}
}

// TestLives: by whatever calls, steps and deaths, what was written is read, and each block that is taken is had once.
func TestLives(t *testing.T) { // 8.2, W1, W3
	g := rand.New(rand.NewSource(82))
	for range 25 {
		n := 1 + g.Intn(6)
		r := made(t, n, 1+g.Intn(120), 200)
		last := model{kinds: make([]int, n), bytes: make([][]byte, n)}
		now := last.clone()
		for range 200 {
			switch k := g.Intn(40); {
			case k < 8:
				now.turn(t, r, g)
			case k < 32:
				now.change(t, r, g)
			case k < 34:
				r.c.Drop()
				now = last.clone()
			case k < 38:
				done(t, r.c.Flush())
				last = now.clone()
			default:
				r.d.Fuse(g.Intn(120))
				err := r.c.Flush()
				r.d.Power()
				r.open(t, 200)
				if !now.is(r) {
					if err == nil || !last.is(r) {
						t.Fatal("neither as ahead nor as behind", err)
					}
					now = last.clone()
				}
				last = now.clone()
			}
			if !now.is(r) {
				t.Fatal("not what was written")
			}
			r.sound(t)
		}
	}
}
