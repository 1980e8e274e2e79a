package disk

import (
	"bytes"
	"errors"
	"fmt"
	"math"
	"math/rand"
	"testing"

	"credenza/api"
	"credenza/fault"
)

// block is a block of one byte.
func block(c byte) []byte { return bytes.Repeat([]byte{c}, api.Block) }

// made is a Disk of n blocks.
func made(t *testing.T, n int) *Disk {
	t.Helper()
	d, err := New(n)
	if err != nil || d == nil {
		t.Fatal(err)
	}
	return d
}

// write writes block i, which must be done.
func write(t *testing.T, d *Disk, i int, b []byte) {
	t.Helper()
	if err := d.Write(i, b); err != nil {
		t.Fatal(i, err)
	}
}

// holds looks whether block i holds b.
func holds(t *testing.T, d *Disk, i int, b []byte) {
	t.Helper()
	if got, err := d.Read(i); err != nil || !bytes.Equal(got, b) {
		t.Errorf("block %d: %v, %v", i, got, err)
	}
}

// tells looks whether err is one Fault of disk and that number, with n at its bottom.
func tells(t *testing.T, err error, number int, n api.Errno) {
	t.Helper()
	f, ok := err.(*api.Fault)
	if !ok || f.Op != "disk" || f.Name != fmt.Sprint(number) || !errors.Is(err, n) {
		t.Errorf("%v, not %d of disk %d", err, n, number)
	}
}

func TestNew(t *testing.T) { // 3.1
	for _, n := range []int{16, 17, 128, 2047, 2048} {
		d := made(t, n)
		if d.Blocks() != n || d.Writes() != 0 || d.Dead() {
			t.Error(n, d.Blocks(), d.Writes(), d.Dead())
		}
		for i := range n {
			holds(t, d, i, block(0))
		}
	}
	for _, n := range []int{15, 1, 0, -1, -16, 2049, math.MaxInt, math.MinInt} {
		d, err := New(n)
		if d != nil {
			t.Error(n)
		}
		tells(t, err, n, api.ErrArg)
	}
}

func TestExample(t *testing.T) {
	d := made(t, 16)
	d.Fuse(1)
	if err := d.Write(0, block(1)); err != nil {
		t.Error(err)
	}
	if s := fault.Text(d.Write(1, block(2))); s != "disk 1: error 50" {
		t.Error(s)
	}
}

func TestReadAndWrite(t *testing.T) { // 3.1
	d := made(t, 16)
	for i := range 16 {
		write(t, d, i, block(byte(i+1)))
	}
	write(t, d, 15, block(99))
	var mixed []byte
	for i := range api.Block {
		mixed = append(mixed, byte(i*7))
	}
	write(t, d, 0, mixed)
	holds(t, d, 0, mixed)
	for i := 1; i < 15; i++ {
		holds(t, d, i, block(byte(i+1)))
	}
	holds(t, d, 15, block(99))
	if d.Writes() != 18 {
		t.Error(d.Writes())
	}
}

func TestWrong(t *testing.T) { // 3.1; DOC.md, rules 4, 5, 8
	d := made(t, 16)
	write(t, d, 3, block(7))
	d.Fuse(1)
	look := func() {
		for _, i := range []int{-1, 16, 2048, math.MaxInt, math.MinInt} {
			b, err := d.Read(i)
			if b != nil {
				t.Error(i, b)
			}
			tells(t, err, i, api.ErrArg)
			tells(t, d.Write(i, block(1)), i, api.ErrArg)
			tells(t, d.Write(i, nil), i, api.ErrArg)
		}
		for _, n := range []int{0, 1, 127, 129, 256} {
			tells(t, d.Write(3, make([]byte, n)), 3, api.ErrArg)
		}
		tells(t, d.Write(3, nil), 3, api.ErrArg)
	}
	look()
	if d.Writes() != 1 || d.Dead() {
		t.Error("a Write that was not done counts", d.Writes(), d.Dead())
	}
	holds(t, d, 3, block(7))
	d.Fuse(0)
	look() // what is asked for stands ahead of what the Disk is
	if d.Writes() != 1 {
		t.Error(d.Writes())
	}
}

func TestDead(t *testing.T) { // 3.1, 3.2
	d := made(t, 16)
	write(t, d, 3, block(7))
	d.Fuse(0)
	if !d.Dead() || d.Blocks() != 16 || d.Writes() != 1 {
		t.Error(d.Dead(), d.Blocks(), d.Writes())
	}
	for i := range 16 {
		b, err := d.Read(i)
		if b != nil {
			t.Error(i, b)
		}
		tells(t, err, i, api.ErrDead)
		tells(t, d.Write(i, block(9)), i, api.ErrDead)
	}
	d.Power()
	if d.Dead() || d.Writes() != 1 {
		t.Error(d.Dead(), d.Writes())
	}
	for i := range 16 {
		if i != 3 {
			holds(t, d, i, block(0))
		}
	}
	holds(t, d, 3, block(7))
}

func TestFuse(t *testing.T) { // 3.1
	for n := range 10 {
		d := made(t, 16)
		d.Fuse(n)
		for i := range 12 {
			if d.Dead() != (i >= n) {
				t.Errorf("Fuse(%d): dead behind %d: %v", n, i, d.Dead())
			}
			if _, err := d.Read(i); errors.Is(err, api.ErrDead) != (i >= n) { // a Read spends nothing
				t.Error(n, i, err)
			}
			if err := d.Write(i, block(5)); (err == nil) != (i < n) {
				t.Error(n, i, err)
			}
		}
		if d.Writes() != n {
			t.Error(n, d.Writes())
		}
	}
}

func TestFuseAnew(t *testing.T) { // 3.1: the last one holds, from its call on
	d := made(t, 16)
	d.Fuse(1)
	d.Fuse(3)
	write(t, d, 0, block(1))
	d.Fuse(2)
	write(t, d, 1, block(1))
	if d.Dead() {
		t.Error("3 less 1 is not 2 from now on")
	}
	write(t, d, 2, block(1))
	if !d.Dead() {
		t.Error("alive")
	}
	for _, n := range []int{-1, -9, math.MinInt} {
		d := made(t, 16)
		d.Fuse(1)
		d.Fuse(n)
		for i := range 100 {
			write(t, d, i%16, block(byte(i)))
		}
	}
	d = made(t, 16)
	d.Fuse(math.MaxInt)
	write(t, d, 0, block(1))
	d.Fuse(0)
	if !d.Dead() {
		t.Error("Fuse(0) is now")
	}
}

func TestDeadStaysSo(t *testing.T) { // 3.1: Power alone makes it live
	for _, n := range []int{-1, math.MinInt, 0, 1, 7, math.MaxInt} {
		d := made(t, 16)
		d.Fuse(0)
		d.Fuse(n)
		if !d.Dead() {
			t.Error(n)
		}
		tells(t, d.Write(1, block(1)), 1, api.ErrDead)
		d.Power()
		for i := range 20 { // without a Fuse, whatever was set
			write(t, d, i%16, block(byte(i)))
		}
	}
}

func TestPower(t *testing.T) { // 3.1
	d := made(t, 16)
	d.Fuse(2)
	write(t, d, 0, block(1))
	d.Power() // of one that lives: the Fuse goes
	for i := range 20 {
		write(t, d, i%16, block(byte(i)))
	}
	if d.Dead() || d.Writes() != 21 {
		t.Error(d.Dead(), d.Writes())
	}
}

func TestCopy(t *testing.T) { // 3.1
	d := made(t, 17)
	write(t, d, 0, block(1))
	d.Fuse(2)
	c := d.Copy()
	if c == d || c.Blocks() != 17 || c.Writes() != 1 || c.Dead() {
		t.Error(c.Blocks(), c.Writes(), c.Dead())
	}
	write(t, c, 0, block(2))
	holds(t, d, 0, block(1))
	write(t, c, 1, block(2))
	if !c.Dead() || d.Dead() || c.Writes() != 3 || d.Writes() != 1 {
		t.Error("the copy's Fuse", c.Writes(), d.Writes())
	}
	write(t, d, 0, block(3))
	dead := c.Copy()
	c.Power()
	if !dead.Dead() || c.Dead() {
		t.Error("a copy of a dead one is dead, and stays so")
	}
	holds(t, c, 0, block(2))
	holds(t, c, 1, block(2))
	holds(t, d, 1, block(0))
	write(t, d, 2, block(3))
	if !d.Dead() {
		t.Error("Power of the copy is not the first one's")
	}
	dead.Power()
	holds(t, dead, 0, block(2))
}

func TestWhatWasWrittenStays(t *testing.T) { // 3.2, W2: whichever write is the last one
	const writes = 40
	for n := range writes + 1 {
		d, want := made(t, 16), make([][]byte, 16)
		for i := range want {
			want[i] = block(0)
		}
		d.Fuse(n)
		for k := range writes {
			i, b := k*5%16, block(byte(k+1))
			switch err := d.Write(i, b); {
			case k >= n:
				tells(t, err, i, api.ErrDead)
			case err != nil:
				t.Fatal(n, k, err)
			default:
				want[i] = b
			}
		}
		d.Power()
		for i, b := range want {
			holds(t, d, i, b)
		}
	}
}

func TestNewMemory(t *testing.T) { // 3.3; DOC.md, rule 3
	d := made(t, 16)
	wide := append(block(1), block(2)...)
	b := wide[:api.Block]
	write(t, d, 4, b)
	if !bytes.Equal(wide, append(block(1), block(2)...)) {
		t.Error("what was handed in is changed")
	}
	b[0] = 9
	holds(t, d, 4, block(1))
	got, _ := d.Read(4)
	for i := range got[:cap(got)] {
		got[:cap(got)][i] = 8
	}
	holds(t, d, 4, block(1))
	holds(t, d, 5, block(0))
	again, _ := d.Read(4)
	write(t, d, 4, block(3))
	if !bytes.Equal(again, block(1)) {
		t.Error("what was told goes on with the Disk")
	}
}

// plain is a Disk by its words: blocks, whether it is dead, whether it has a Fuse.
type plain struct {
	blocks     [16][]byte
	dead, fuse bool
	n, writes  int
}

func (p *plain) write(i int, b []byte) api.Errno {
	if i < 0 || i > 15 || len(b) != 128 {
		return api.ErrArg
	}
	if p.dead {
		return api.ErrDead
	}
	p.blocks[i] = bytes.Clone(b)
	p.writes++
	if p.fuse {
		p.n--
		p.dead = p.n == 0
	}
	return api.OK
}

func (p *plain) set(n int) {
	if !p.dead {
		p.fuse, p.n, p.dead = n >= 0, n, n == 0
	}
}

func TestManyCalls(t *testing.T) { // 3.1 to 3.3, against plain
	r := rand.New(rand.NewSource(3))
	for range 200 {
		d, p := made(t, 16), plain{}
		for i := range p.blocks {
			p.blocks[i] = block(0)
		}
		for range 300 {
			i, b := r.Intn(18)-1, make([]byte, 128+r.Intn(12)/11)
			r.Read(b)
			switch k := r.Intn(40); {
			case k < 25:
				if err := d.Write(i, b); fault.Num(err) != p.write(i, b) {
					t.Fatal(i, len(b), err)
				}
			case k < 30:
				n := r.Intn(24) - 4
				d.Fuse(n)
				p.set(n)
			case k < 33:
				d.Power()
				p.dead, p.fuse = false, false
			case k < 36:
				gone := d
				d = d.Copy()
				gone.Power()
				gone.Write(1, b)
			default:
				c := d.Copy()
				c.Power()
				for i, b := range p.blocks {
					holds(t, c, i, b)
				}
			}
			if d.Dead() != p.dead || d.Writes() != p.writes || d.Blocks() != 16 {
				t.Fatal(d.Dead(), d.Writes(), p.dead, p.writes)
			}
		}
	}
}
