package cache

import (
	"bytes"
	"errors"
	"math"
	"math/rand"
	"slices"
	"strconv"
	"testing"

	"credenza/api"
	"credenza/disk"
	"credenza/fault"
	"credenza/journal"
)

// The disk of most tests: blocks 0 to 29 are to be had, the Journal's own stand from 30 on.
const (
	size = 50
	own  = 30
	wide = 30
)

// block is a block of one byte.
func block(c byte) []byte { return bytes.Repeat([]byte{c}, api.Block) }

// made is a disk whose block i is of byte i, and a Cache on it for steps of at most most blocks.
func made(t testing.TB, most int) (*disk.Disk, *Cache) {
	t.Helper()
	d, err := disk.New(size)
	if err != nil {
		t.Fatal(err)
	}
	for i := range own {
		if err := d.Write(i, block(byte(i))); err != nil {
			t.Fatal(err)
		}
	}
	return d, opened(t, d, most)
}

// opened is a Cache on a Journal that is opened anew.
func opened(t testing.TB, d *disk.Disk, most int) *Cache {
	t.Helper()
	c, err := New(reopened(t, d, most), wide)
	if err != nil || c == nil {
		t.Fatal(err)
	}
	return c
}

// reopened is the disk's Journal, which must be opened.
func reopened(t testing.TB, d *disk.Disk, most int) *journal.Journal {
	t.Helper()
	j, err := journal.Open(d, own, most)
	if err != nil {
		t.Fatal(err)
	}
	return j
}

// writes is a Write that must be done.
func writes(t testing.TB, c *Cache, no, at int, b []byte) {
	t.Helper()
	if err := c.Write(no, at, b); err != nil {
		t.Fatal(no, at, len(b), err)
	}
}

// reads looks whether block no of the Cache holds b.
func reads(t testing.TB, c *Cache, no int, b []byte) {
	t.Helper()
	if got, err := c.Read(no); err != nil || !bytes.Equal(got, b) {
		t.Errorf("block %d: %v, %v", no, got, err)
	}
}

// holds looks whether block no of the disk holds b.
func holds(t testing.TB, d *disk.Disk, no int, b []byte) {
	t.Helper()
	if got, err := d.Read(no); err != nil || !bytes.Equal(got, b) {
		t.Errorf("block %d of the disk: %v, %v", no, got, err)
	}
}

// changes looks whether just these blocks are changed.
func changes(t testing.TB, c *Cache, want ...int) {
	t.Helper()
	if got := c.Changed(); !slices.Equal(got, want) {
		t.Errorf("changed are %v, not %v", got, want)
	}
}

// tells looks whether err is a Fault of cache and a name, with n at its bottom.
func tells(t testing.TB, err error, name string, n api.Errno) {
	t.Helper()
	f, ok := err.(*api.Fault)
	if !ok || f.Op != "cache" || f.Name != name || !errors.Is(err, n) {
		t.Errorf("%v, not %d of cache %q", err, n, name)
	}
}

func TestNew(t *testing.T) { // 5.1
	d, _ := made(t, 4)
	j := reopened(t, d, 4)
	for _, x := range []struct {
		j      *journal.Journal
		blocks int
		name   string
	}{
		{nil, 5, "5"}, {nil, 0, "0"}, {j, 0, "0"}, {j, -1, "-1"}, {j, math.MinInt, "-9223372036854775808"},
	} {
		c, err := New(x.j, x.blocks)
		if c != nil || fault.Text(err) != "cache "+x.name+": error 1" {
			t.Error(x.name, fault.Text(err))
		}
	}
	before := d.Writes()
	for _, n := range []int{1, 2, wide, size, size + 1, math.MaxInt} {
		c, err := New(j, n)
		if c == nil || err != nil {
			t.Fatal(n, err)
		}
		changes(t, c)
		reads(t, c, 0, block(0))
		writes(t, c, min(n, own)-1, 0, nil)
		_, err = c.Read(n)
		tells(t, err, strconv.Itoa(n), api.ErrArg)
		if d.Writes() != before {
			t.Error("written")
		}
	}
	d.Fuse(0)
	if c, err := New(j, 5); c == nil || err != nil { // nothing is read as yet
		t.Error(err)
	}
}

func TestRead(t *testing.T) { // 5.1
	d, c := made(t, 4)
	for i := range wide {
		reads(t, c, i, block(byte(i)))
	}
	for no, name := range map[int]string{
		-1: "-1", wide: "30", size: "50", math.MaxInt: "9223372036854775807", math.MinInt: "-9223372036854775808",
	} {
		b, err := c.Read(no)
		if b != nil || fault.Text(err) != "cache "+name+": error 1" {
			t.Error(no, b, fault.Text(err))
		}
	}
	writes(t, c, 7, 0, block(70))
	reads(t, c, 7, block(70))
	writes(t, c, 7, 0, block(71))
	reads(t, c, 7, block(71)) // as it was written last
	if err := c.Flush(); err != nil {
		t.Fatal(err)
	}
	reads(t, c, 7, block(71))
	if err := d.Write(8, block(80)); err != nil {
		t.Fatal(err)
	}
	reads(t, c, 8, block(80)) // a block that was only read is not kept
	writes(t, c, 9, 0, block(90))
	d.Fuse(0)
	reads(t, c, 9, block(90)) // a changed one does not need the disk
	b, err := c.Read(7)
	if b != nil || fault.Text(err) != "cache 7: journal: disk 7: error 50" {
		t.Error(b, fault.Text(err))
	}
	_, err = c.Read(wide)
	tells(t, err, "30", api.ErrArg)
}

func TestWrite(t *testing.T) { // 5.1
	for at := range api.Block + 1 {
		for _, n := range []int{0, 1, 2, 63, 64, 127, 128} {
			if at+n > api.Block {
				continue
			}
			d, c := made(t, 4)
			want := block(5)
			copy(want[at:], block(200)[:n])
			before := d.Writes()
			writes(t, c, 5, at, block(200)[:n])
			reads(t, c, 5, want)
			reads(t, c, 4, block(4))
			reads(t, c, 6, block(6))
			changes(t, c, 5)
			writes(t, c, 5, 0, []byte{77})
			want[0] = 77
			reads(t, c, 5, want)
			holds(t, d, 5, block(5))
			if d.Writes() != before {
				t.Error(at, n, "written early")
			}
		}
	}
}

func TestWriteWrong(t *testing.T) { // 5.1; DOC.md, rules 5, 8
	d, c := made(t, 4)
	full := func() {
		for i, no := range []int{0, 3, 5, 29} {
			writes(t, c, no, i, []byte{99})
		}
	}
	look := func(changed ...int) {
		t.Helper()
		for _, x := range []struct {
			no, at, n int
			name      string
		}{
			{-1, 0, 1, "-1"}, {wide, 0, 1, "30"}, {size, 0, 1, "50"}, {math.MaxInt, 0, 0, "9223372036854775807"},
			{math.MinInt, 0, 0, "-9223372036854775808"}, {-1, -1, 129, "-1"},
			{5, -1, 1, "5"}, {5, -1, 0, "5"}, {5, math.MinInt, 1, "5"}, {5, -128, 128, "5"},
			{5, 128, 1, "5"}, {5, 129, 0, "5"}, {5, 127, 2, "5"}, {5, 1, 128, "5"}, {5, 0, 129, "5"}, {5, 0, 100000, "5"},
			{5, math.MaxInt, 1, "5"}, {5, math.MaxInt, 0, "5"}, {5, math.MaxInt - 127, 128, "5"},
			{6, -1, 1, "6"}, {6, 128, 1, "6"}, {6, 0, 129, "6"},
		} {
			if err := c.Write(x.no, x.at, make([]byte, x.n)); fault.Text(err) != "cache "+x.name+": error 1" {
				t.Error(x, fault.Text(err))
			}
		}
		changes(t, c, changed...)
	}
	look()
	reads(t, c, 5, block(5))
	full()
	look(0, 3, 5, 29) // ahead of ErrBig
	d.Fuse(0)
	look(0, 3, 5, 29) // and of ErrDead
	want := block(5)
	want[2] = 99
	reads(t, c, 5, want)
}

func TestWriteTooMany(t *testing.T) { // 5.1
	for _, most := range []int{1, 2, 5, 16} {
		d, c := made(t, most)
		for i := range most {
			writes(t, c, 2*i%29, 0, block(100))
		}
		changed := c.Changed()
		if len(changed) != most {
			t.Fatal(changed)
		}
		for _, b := range [][]byte{nil, {1}, block(1)} {
			if err := c.Write(29, 0, b); fault.Text(err) != "cache 29: error 5" {
				t.Error(most, fault.Text(err))
			}
		}
		for _, no := range changed { // one that is changed already does not become more
			writes(t, c, no, 3, []byte{7})
		}
		changes(t, c, changed...)
		reads(t, c, 29, block(29))
		d.Fuse(0)
		tells(t, c.Write(29, 0, nil), "29", api.ErrBig)
		d.Power()
		if err := c.Flush(); err != nil {
			t.Fatal(err)
		}
		writes(t, c, 29, 0, block(1))
		c.Drop()
		for i := range most {
			writes(t, c, 29-i, 0, block(2))
		}
		tells(t, c.Write(1, 0, nil), "1", api.ErrBig)
	}
}

func TestWriteDead(t *testing.T) { // 5.1: the journal's errors
	d, c := made(t, 4)
	writes(t, c, 7, 0, []byte{70})
	d.Fuse(0)
	for _, b := range [][]byte{nil, {1}, block(1)} {
		if err := c.Write(8, 0, b); fault.Text(err) != "cache 8: journal: disk 8: error 50" {
			t.Error(fault.Text(err))
		}
	}
	writes(t, c, 7, 1, []byte{71})
	changes(t, c, 7)
	d.Power()
	reads(t, c, 8, block(8))
	want := block(7)
	want[0], want[1] = 70, 71
	reads(t, c, 7, want)
}

// TestWider: a Cache may be wider than its disk; what is not there is told by the journal.
func TestWider(t *testing.T) { // 5.1
	d, _ := made(t, 4)
	c, err := New(reopened(t, d, 4), math.MaxInt)
	if err != nil {
		t.Fatal(err)
	}
	for _, no := range []int{size, size + 1, math.MaxInt - 1} {
		b, err := c.Read(no)
		if b != nil || !slices.Equal(fault.Ops(err), []string{"cache", "journal", "disk"}) || fault.Num(err) != api.ErrArg {
			t.Error(no, b, fault.Text(err))
		}
		for _, b := range [][]byte{nil, {1}, block(1)} {
			tells(t, c.Write(no, 0, b), fault.Names(err)[0], api.ErrArg)
		}
	}
	changes(t, c)
	if err := c.Flush(); err != nil {
		t.Error(err)
	}
}

func TestChanged(t *testing.T) { // 5.1
	d, c := made(t, 16)
	changes(t, c)
	for _, no := range []int{17, 3, 29, 0, 3, 11, 17, 28} {
		writes(t, c, no, 0, nil)
	}
	changes(t, c, 0, 3, 11, 17, 28, 29)
	writes(t, c, 4, 0, block(4)) // its bytes stay
	changes(t, c, 0, 3, 4, 11, 17, 28, 29)
	if _, err := c.Read(9); err != nil {
		t.Fatal(err)
	}
	changes(t, c, 0, 3, 4, 11, 17, 28, 29)
	before := d.Writes()
	if err := c.Flush(); err != nil {
		t.Fatal(err)
	}
	changes(t, c)
	if d.Writes() == before {
		t.Error("blocks whose bytes stayed are committed too")
	}
	writes(t, c, 5, 128, nil)
	changes(t, c, 5)
	c.Drop()
	changes(t, c)
}

func TestFlush(t *testing.T) { // 5.1, 5.2
	d, c := made(t, 4)
	for round := range 3 {
		want := map[int][]byte{}
		for i, no := range []int{29, 0, 12} {
			want[no], _ = c.Read(no)
			copy(want[no][10*round+i:], block(byte(100 + round))[:20])
			writes(t, c, no, 10*round+i, block(byte(100 + round))[:20])
			if got, err := d.Read(no); err != nil || bytes.Equal(got, want[no]) {
				t.Error("early")
			}
		}
		if err := c.Flush(); err != nil {
			t.Fatal(err)
		}
		changes(t, c)
		for no, b := range want {
			reads(t, c, no, b)
			holds(t, d, no, b)
		}
		for i := range own {
			if want[i] == nil {
				holds(t, d, i, block(byte(i)))
			}
		}
	}
	before := d.Writes()
	if err := c.Flush(); err != nil || d.Writes() != before {
		t.Error(err, d.Writes()-before)
	}
	d.Fuse(0)
	if err := c.Flush(); err != nil { // nothing is done, which a dead disk does not hinder
		t.Error(err)
	}
}

func TestFlushWrong(t *testing.T) { // 5.1; DOC.md, rule 8
	d, _ := made(t, 4)
	j := reopened(t, d, 4)
	c, err := New(j, size)
	if err != nil {
		t.Fatal(err)
	}
	writes(t, c, 3, 0, block(33))
	writes(t, c, own, 0, block(44)) // the Journal's own
	before := d.Writes()
	for range 2 {
		if err := c.Flush(); fault.Text(err) != "cache: journal: error 1" || d.Writes() != before {
			t.Error(fault.Text(err))
		}
		changes(t, c, 3, own)
		reads(t, c, 3, block(33))
		reads(t, c, own, block(44))
	}
	c.Drop()
	reads(t, c, 3, block(3))
	writes(t, c, 3, 0, block(33))
	if err := c.Flush(); err != nil {
		t.Error(err)
	}
	holds(t, d, 3, block(33))
}

// TestFlushAgain: a Flush that a death cut off anywhere leaves all changed, and is done when it is tried again.
func TestFlushAgain(t *testing.T) { // 5.1, 5.2
	died := 0
	for k := range 20 {
		d, c := made(t, 4)
		for no := range 4 {
			writes(t, c, no, 64, block(100)[:64])
		}
		d.Fuse(k)
		err := c.Flush()
		if err != nil {
			died++
			tells(t, err, "", api.ErrDead)
			if !slices.Equal(fault.Ops(err), []string{"cache", "journal", "disk"}) {
				t.Error(fault.Text(err))
			}
			changes(t, c, 0, 1, 2, 3)
			tells(t, c.Flush(), "", api.ErrDead)
			changes(t, c, 0, 1, 2, 3)
		} else if k < 4 {
			t.Error("done by too few writes", k)
		}
		d.Power()
		if err := c.Flush(); err != nil {
			t.Fatal(err)
		}
		changes(t, c)
		for no := range 4 {
			want := append(block(byte(no))[:64], block(100)[:64]...)
			reads(t, c, no, want)
			holds(t, d, no, want)
		}
	}
	if died == 0 || died == 20 {
		t.Error("the fuses do not meet the Flush", died)
	}
}

func TestDrop(t *testing.T) { // 5.1, 5.2 and the chapter's example
	d, c := made(t, 4)
	before := d.Writes()
	c.Drop()
	writes(t, c, 3, 0, block(100))
	writes(t, c, 3, 5, block(101)[:9])
	writes(t, c, 8, 5, block(101)[:9])
	c.Drop()
	c.Drop()
	changes(t, c)
	for i := range own {
		reads(t, c, i, block(byte(i)))
		holds(t, d, i, block(byte(i)))
	}
	if err := c.Flush(); err != nil || d.Writes() != before {
		t.Error(err, d.Writes()-before)
	}
	writes(t, c, 3, 0, []byte{77}) // nothing of what was dropped comes with it
	want := block(3)
	want[0] = 77
	reads(t, c, 3, want)
	if err := c.Flush(); err != nil {
		t.Fatal(err)
	}
	c.Drop() // what was flushed is not taken back
	reads(t, c, 3, want)
	holds(t, d, 3, want)
	writes(t, c, 4, 0, []byte{77})
	d.Fuse(0)
	c.Drop()
	changes(t, c)
}

func TestMemory(t *testing.T) { // DOC.md, rule 3
	d, c := made(t, 4)
	room := make([]byte, 300)
	given := room[100:110:200]
	writes(t, c, 3, 60, given)
	writes(t, c, 4, 0, room[:128])
	if !bytes.Equal(room, make([]byte, 300)) {
		t.Error("what was handed in is changed")
	}
	want := append(append(block(3)[:60], make([]byte, 10)...), block(3)[:58]...)
	for i := range room {
		room[i] = 9
	}
	reads(t, c, 3, want)
	reads(t, c, 4, block(0))
	for _, no := range []int{3, 5} {
		b, _ := c.Read(no)
		again, _ := c.Read(no)
		keep := slices.Clone(again)
		for i := range b[:cap(b)] {
			b[:cap(b)][i] = 250
		}
		if !bytes.Equal(again, keep) {
			t.Error(no, "two answers share")
		}
		reads(t, c, no, keep)
	}
	l := c.Changed()
	for i := range l[:cap(l)] {
		l[:cap(l)][i] = 99
	}
	changes(t, c, 3, 4)
	b, _ := c.Read(3)
	if err := c.Flush(); err != nil {
		t.Fatal(err)
	}
	b[0] = 251
	reads(t, c, 3, want)
	holds(t, d, 3, want)
}

// TestDeaths: a death at each write of a Flush, then at each of an Open: the step is whole, or nothing of it is there.
func TestDeaths(t *testing.T) { // 5.2, W2
	wholes, nothings := 0, 0
	for k := range 20 {
		for a := range 10 {
			d, c := made(t, 4)
			for no := 10; no < 14; no++ {
				writes(t, c, no, 3, []byte{200})
			}
			d.Fuse(k)
			err := c.Flush()
			if a%2 == 0 {
				c.Drop()
			}
			d.Power()
			d.Fuse(a)
			if _, err := journal.Open(d, own, 4); err != nil && !errors.Is(err, api.ErrDead) {
				t.Fatal(err)
			}
			d.Power()
			c = opened(t, d, 4)
			changes(t, c)
			n := 0
			for no := range wide {
				want := block(byte(no))
				if no >= 10 && no < 14 {
					if b, err := c.Read(no); err == nil && b[3] == 200 {
						n++
						want[3] = 200
					}
				}
				reads(t, c, no, want)
			}
			if n != 0 && n != 4 || err == nil && n == 0 || k == 0 && n == 4 {
				t.Fatal(k, a, n, err)
			}
			wholes += n / 4
			nothings += 1 - n/4
		}
	}
	if wholes == 0 || nothings == 0 {
		t.Error(wholes, nothings)
	}
}

// TestLives: calls at random, deaths at random; behind each call the Cache is as the model says.
func TestLives(t *testing.T) { // 5.1, 5.2, W2
	r := rand.New(rand.NewSource(5))
	for range 150 {
		most := 1 + r.Intn(12)
		d, c := made(t, most)
		m := model{now: blocks(t, d), most: most}
		for range 200 {
			switch n := r.Intn(20); {
			case n < 14:
				no, at := r.Intn(wide+2)-1, r.Intn(api.Block+3)-1
				b := block(byte(r.Intn(256)))[:r.Intn(api.Block+1)]
				if r.Intn(3) > 0 {
					b = b[:min(len(b), max(api.Block-at, 0))]
				}
				if got, want := fault.Num(c.Write(no, at, b)), m.write(no, at, b); got != want {
					t.Fatal(no, at, len(b), got, want)
				}
			case n < 15:
				c.Drop()
				m.step = nil
			case n < 18:
				if err := c.Flush(); err != nil {
					t.Fatal(err)
				}
				m.flush()
			default:
				c = m.die(t, r, d, c)
			}
			m.look(t, c)
		}
	}
}

// model is what a Cache is to tell.
type model struct {
	now  [][]byte
	step map[int][]byte
	most int
}

// write is the number that a Write is to tell.
func (m *model) write(no, at int, b []byte) api.Errno {
	if no < 0 || no >= wide || at < 0 || at+len(b) > api.Block {
		return api.ErrArg
	}
	if m.step == nil {
		m.step = map[int][]byte{}
	}
	old, ok := m.step[no]
	if !ok {
		old = m.now[no]
	}
	if !ok && len(m.step) == m.most {
		return api.ErrBig
	}
	m.step[no] = slices.Concat(old[:at], b, old[at+len(b):])
	return api.OK
}

// flush makes the step last.
func (m *model) flush() {
	for no, b := range m.step {
		m.now[no] = b
	}
	m.step = nil
}

// die lets the disk die within a Flush, and opens it again, until that is done.
func (m *model) die(t *testing.T, r *rand.Rand, d *disk.Disk, c *Cache) *Cache {
	t.Helper()
	d.Fuse(r.Intn(2*m.most + 5))
	err := c.Flush()
	for again := true; again; {
		d.Power()
		d.Fuse(r.Intn(m.most+6) - 2)
		_, err := journal.Open(d, own, m.most)
		again = err != nil
	}
	d.Power()
	got := blocks(t, d)
	before := slices.Clone(m.now)
	m.flush()
	if !slices.EqualFunc(got, m.now, bytes.Equal) {
		if err == nil || !slices.EqualFunc(got, before, bytes.Equal) {
			t.Fatal("neither as ahead nor as behind", err)
		}
		m.now = before
	}
	return opened(t, d, m.most)
}

// look looks whether the Cache is as the model.
func (m *model) look(t *testing.T, c *Cache) {
	t.Helper()
	var changed []int
	for no := range wide {
		if b, ok := m.step[no]; ok {
			changed = append(changed, no)
			reads(t, c, no, b)
		} else {
			reads(t, c, no, m.now[no])
		}
	}
	changes(t, c, changed...)
	if t.Failed() {
		t.FailNow()
	}
}

// blocks is what the disk holds, the Journal's own blocks aside.
func blocks(t *testing.T, d *disk.Disk) [][]byte {
	t.Helper()
	var all [][]byte
	for i := range own {
		b, err := d.Read(i)
		if err != nil {
			t.Fatal(err)
		}
		all = append(all, b)
	}
	return all
}
