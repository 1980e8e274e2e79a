package journal

import (
	"bytes"
	"errors"
	"math"
	"math/rand"
	"slices"
	"testing"

	"credenza/api"
	"credenza/disk"
	"credenza/fault"
)

// block is a block of one byte.
func block(c byte) []byte { return bytes.Repeat([]byte{c}, api.Block) }

// made is a disk of n blocks, none of which is noughts.
func made(t testing.TB, n int) *disk.Disk {
	t.Helper()
	d, err := disk.New(n)
	if err != nil {
		t.Fatal(err)
	}
	for i := range n {
		if err := d.Write(i, block(200)); err != nil {
			t.Fatal(err)
		}
	}
	return d
}

// opened is a Journal that must be opened.
func opened(t testing.TB, d *disk.Disk, at, most int) *Journal {
	t.Helper()
	j, err := Open(d, at, most)
	if err != nil || j == nil {
		t.Fatal(err)
	}
	return j
}

// tells looks whether err is a Fault of journal without a Name, with n at its bottom.
func tells(t testing.TB, err error, n api.Errno) {
	t.Helper()
	f, ok := err.(*api.Fault)
	if !ok || f.Op != "journal" || f.Name != "" || !errors.Is(err, n) {
		t.Errorf("%v, not %d of journal", err, n)
	}
}

// few is a group of n blocks from no on, each of another byte.
func few(no, n int, c byte) []Block {
	var l []Block
	for i := range n {
		l = append(l, Block{No: no + i, Data: block(c + byte(i))})
	}
	return l
}

// holds looks whether the disk holds each block of l.
func holds(t testing.TB, d *disk.Disk, l []Block) {
	t.Helper()
	for _, b := range l {
		if got, err := d.Read(b.No); err != nil || !bytes.Equal(got, b.Data) {
			t.Errorf("block %d: %v, %v", b.No, got, err)
		}
	}
}

func TestNeed(t *testing.T) { // 4.1
	for most, want := range map[int]int{
		1: 4, 2: 5, 15: 18, 16: 19, 17: 21, 32: 36, 33: 38, 87: 95, 200: 215, 201: 216, 1 << 40: 1<<40 + 1<<36 + 2,
		0: 4, -1: 4, -200: 4, math.MinInt: 4, math.MaxInt: math.MaxInt, math.MaxInt - 1: math.MaxInt,
	} {
		if got := Need(most); got != want {
			t.Error(most, got, want)
		}
	}
}

func TestOpen(t *testing.T) { // 4.1
	for _, x := range [][3]int{{16, 0, 1}, {16, 12, 1}, {16, 0, 13}, {40, 10, 5}, {215, 0, 200}, {2048, 2048 - 215, 200}} {
		d := made(t, x[0])
		writes := d.Writes()
		j := opened(t, d, x[1], x[2])
		if j.Most() != x[2] || d.Writes() != writes {
			t.Error(x, j.Most(), d.Writes()-writes)
		}
	}
	d := made(t, 40)
	for _, x := range [][2]int{
		{0, 0}, {0, -1}, {0, 201}, {0, math.MaxInt}, {0, math.MinInt}, {-1, 5}, {math.MinInt, 5}, {33, 5}, {39, 1}, {37, 1},
		{40, 1}, {math.MaxInt, 5}, {math.MaxInt, math.MaxInt}, {0, 37}, {0, 200}, {1, 35},
	} {
		j, err := Open(d, x[0], x[1])
		if j != nil {
			t.Error(x)
		}
		tells(t, err, api.ErrArg)
	}
	j, err := Open(nil, 0, 5)
	if j != nil {
		t.Error("no disk")
	}
	tells(t, err, api.ErrArg)
	d.Fuse(0)
	if j, err := Open(d, 0, 5); j != nil || fault.Text(err) != "journal: disk 0: error 50" {
		t.Error(fault.Text(err))
	}
	_, err = Open(d, 0, 0)
	tells(t, err, api.ErrArg)
}

func TestRead(t *testing.T) { // 4.1; DOC.md, rules 3, 4
	d := made(t, 20)
	j := opened(t, d, 3, 1)
	for i := range 20 {
		if err := d.Write(i, block(byte(i))); err != nil {
			t.Fatal(err)
		}
	}
	for i := range 20 {
		b, err := j.Read(i)
		if err != nil || !bytes.Equal(b, block(byte(i))) {
			t.Error(i, b, err)
		}
		b[0] = 99
		holds(t, d, []Block{{No: i, Data: block(byte(i))}})
	}
	for _, i := range []int{-1, 20, math.MaxInt, math.MinInt} {
		b, err := j.Read(i)
		if b != nil || !slices.Equal(fault.Ops(err), []string{"journal", "disk"}) {
			t.Error(i, b, fault.Text(err))
		}
		tells(t, err, api.ErrArg)
	}
	d.Fuse(0)
	b, err := j.Read(7)
	if b != nil || fault.Text(err) != "journal: disk 7: error 50" {
		t.Error(b, fault.Text(err))
	}
}

func TestCommit(t *testing.T) { // 4.2
	for _, n := range []int{1, 2, 15, 16, 17, 31, 32, 33, 199, 200} {
		d := made(t, 700)
		at, own := 100, Need(n)
		j := opened(t, d, at, n)
		for round := range 3 {
			var l []Block
			for i := range n {
				no := (i * 7) % 400
				if no >= at {
					no += own
				}
				l = append(l, Block{No: no, Data: block(byte(i + round*77))})
			}
			slices.Reverse(l)
			want := laid(raw(t, d), l)
			if err := j.Commit(l); err != nil {
				t.Fatal(n, err)
			}
			if !same(raw(t, d), want, at, own) {
				t.Error(n, round)
			}
		}
	}
}

func TestCommitWrong(t *testing.T) { // 4.2; DOC.md, rules 5, 8
	d := made(t, 40)
	j := opened(t, d, 10, 5)
	ok := block(1)
	good := Block{No: 0, Data: ok}
	six := few(20, 6, 1)
	wrongs := [][]Block{
		{{No: 40, Data: ok}}, {{No: -1, Data: ok}}, {{No: math.MaxInt, Data: ok}}, {{No: math.MinInt, Data: ok}},
		{{No: 10, Data: ok}}, {{No: 17, Data: ok}}, {{No: 13, Data: ok}},
		{good, good}, {good, {No: 1, Data: ok}, good},
		{{No: 1}}, {{No: 1, Data: ok[:127]}}, {{No: 1, Data: make([]byte, 129)}}, {{No: 1, Data: []byte{}}},
		{good, {No: 10, Data: ok}}, {good, {No: 40, Data: ok}}, {good, {No: 1, Data: nil}},
		append(slices.Clone(six), Block{No: 99, Data: ok}), append(slices.Clone(six), Block{No: 20, Data: ok}),
		append(slices.Clone(six), Block{No: 11, Data: ok}), append(slices.Clone(six), Block{No: 1, Data: ok[:1]}),
		slices.Repeat([]Block{good}, 100000),
	}
	look := func() {
		writes := d.Writes()
		for i, l := range wrongs {
			err := j.Commit(l)
			tells(t, err, api.ErrArg)
			if d.Writes() != writes {
				t.Error(i, "was written")
			}
		}
		for _, l := range [][]Block{six, append(few(0, 10, 1), few(18, 22, 1)...)} {
			tells(t, j.Commit(l), api.ErrBig)
		}
		if err := j.Commit(nil); err != nil {
			t.Error(err)
		}
		if err := j.Commit([]Block{}); err != nil {
			t.Error(err)
		}
		if d.Writes() != writes {
			t.Error("written", d.Writes()-writes)
		}
	}
	before := raw(t, d)
	look()
	if !same(before, raw(t, d), 0, 0) {
		t.Error("changed")
	}
	for _, l := range [][]Block{six[:5], {{No: 9, Data: ok}, {No: 18, Data: ok}, {No: 0, Data: ok}, {No: 39, Data: ok}}} {
		if err := j.Commit(l); err != nil {
			t.Error(err)
		}
		holds(t, d, l)
	}
	d.Fuse(0)
	look() // what is asked for stands ahead of what the disk is, and none is nothing
	err := j.Commit(six[:1])
	tells(t, err, api.ErrDead)
	if !slices.Equal(fault.Ops(err), []string{"journal", "disk"}) {
		t.Error(fault.Text(err))
	}
}

func TestCommitKeepsNothing(t *testing.T) { // DOC.md, rule 3
	d := made(t, 40)
	j := opened(t, d, 0, 5)
	room := make([]byte, 3*api.Block)
	l := make([]Block, 2, 4)
	l[0] = Block{No: 20, Data: room[:api.Block]}
	l[1] = Block{No: 21, Data: room[api.Block:][:api.Block]}
	if err := j.Commit(l); err != nil {
		t.Fatal(err)
	}
	if !bytes.Equal(room, make([]byte, 3*api.Block)) || l[0].No != 20 || l[1].No != 21 || l[:4][2].Data != nil {
		t.Error("changed")
	}
	copy(room, block(9))
	if err := j.Commit(few(30, 1, 1)); err != nil {
		t.Fatal(err)
	}
	opened(t, d, 0, 5)
	holds(t, d, []Block{{No: 20, Data: block(0)}, {No: 21, Data: block(0)}})
}

// TestOnce: a group that is done is not done again, neither by Open nor by a later Commit.
func TestOnce(t *testing.T) { // 4.1, 4.2
	d := made(t, 40)
	j := opened(t, d, 0, 5)
	if err := j.Commit(few(20, 5, 1)); err != nil {
		t.Fatal(err)
	}
	if err := d.Write(20, block(77)); err != nil {
		t.Fatal(err)
	}
	writes := d.Writes()
	j = opened(t, d, 0, 5)
	if d.Writes() != writes {
		t.Error("Open wrote")
	}
	if err := j.Commit(few(30, 1, 1)); err != nil {
		t.Fatal(err)
	}
	holds(t, d, []Block{{No: 20, Data: block(77)}})
}

func TestExample(t *testing.T) {
	d := made(t, 40)
	j := opened(t, d, 0, 5)
	before := raw(t, d)
	d.Fuse(2)
	tells(t, j.Commit(few(20, 2, 1)), api.ErrDead)
	d.Power()
	opened(t, d, 0, 5)
	now := raw(t, d)
	if !same(now, before, 0, Need(5)) && !same(now, laid(before, few(20, 2, 1)), 0, Need(5)) {
		t.Error("neither both nor none")
	}
}

// TestDeaths: a death at each write of a Commit, then at each of an Open, then at each of another one.
func TestDeaths(t *testing.T) { // 4.2, 4.3
	for _, n := range []int{1, 2, 16, 17} {
		start := made(t, 80)
		j := opened(t, start, 5, n)
		if err := j.Commit(few(40, n, 1)); err != nil {
			t.Fatal(err)
		}
		before := raw(t, start)
		behind := laid(before, few(41, n, 101))
		done := start.Copy()
		if err := opened(t, done, 5, n).Commit(few(41, n, 101)); err != nil {
			t.Fatal(err)
		}
		writes := done.Writes() - start.Writes()
		halves := 0
		for k := range writes + 1 {
			d := start.Copy()
			j := opened(t, d, 5, n)
			d.Fuse(k)
			err := j.Commit(few(41, n, 101))
			if (err == nil) != (k == writes) {
				t.Error(n, k, err)
			}
			d.Power()
			for a := range n + 2 {
				for b := range n + 2 {
					c := d.Copy()
					for _, fuse := range []int{a, b} {
						c.Fuse(fuse)
						if _, err := Open(c, 5, n); err != nil {
							tells(t, err, api.ErrDead)
							halves++
						}
						c.Power()
					}
					opened(t, c, 5, n)
					now := raw(t, c)
					whole := same(now, behind, 5, Need(n))
					if !whole && !same(now, before, 5, Need(n)) || err == nil && !whole || k == 0 && whole {
						t.Fatal(n, k, a, b, err)
					}
				}
			}
		}
		if halves == 0 {
			t.Error("no Open died")
		}
	}
}

// TestGoesOn: a Journal whose disk died and lives again leaves no group half done, though nobody opened it anew.
func TestGoesOn(t *testing.T) { // 4.3
	first, second := few(254, 5, 1), few(30, 3, 50)
	for k := range 14 {
		for again := range 20 {
			d := made(t, 260)
			j := opened(t, d, 0, 5)
			d.Fuse(k)
			err := j.Commit(first)
			d.Power()
			d.Fuse(again)
			errAgain := j.Commit(second)
			d.Power()
			opened(t, d, 0, 5)
			one, all := parts(t, d, first)
			if !all || err == nil && !one {
				t.Error(k, again, "first", err)
			}
			two, all := parts(t, d, second)
			if !all || errAgain == nil && !two {
				t.Error(k, again, "second", errAgain)
			}
		}
	}
}

// parts is whether the disk holds the blocks of l, and whether it holds all of them or none.
func parts(t *testing.T, d *disk.Disk, l []Block) (bool, bool) {
	t.Helper()
	n := 0
	for _, b := range l {
		got, err := d.Read(b.No)
		if err != nil {
			t.Fatal(err)
		}
		if bytes.Equal(got, b.Data) {
			n++
		}
	}
	return n == len(l), n == 0 || n == len(l)
}

// TestLives: groups at random, deaths at random, also within Open; behind each life the blocks are as the model says.
func TestLives(t *testing.T) { // 4.3, W2
	r := rand.New(rand.NewSource(4))
	for range 150 {
		most := 1 + r.Intn(40)
		d := made(t, 120)
		at := r.Intn(120 - Need(most) + 1)
		j := opened(t, d, at, most)
		now := raw(t, d)
		for range 60 {
			l := someGroup(r, at, most)
			next := laid(now, l)
			if r.Intn(2) == 0 {
				d.Fuse(r.Intn(2*most + 8))
			}
			err := j.Commit(l)
			for d.Dead() {
				d.Power()
				if r.Intn(3) > 0 {
					d.Fuse(r.Intn(most + 3))
				}
				if again, err := Open(d, at, most); err == nil {
					j = again
				}
			}
			d.Power()
			got := raw(t, d)
			switch {
			case same(got, next, at, Need(most)):
				now = next
			case err != nil && same(got, now, at, Need(most)):
			default:
				t.Fatal("neither as ahead nor as behind", err)
			}
		}
	}
}

// someGroup is a group at random.
func someGroup(r *rand.Rand, at, most int) []Block {
	var l []Block
	for _, no := range r.Perm(120) {
		if len(l) < most && (no < at || no >= at+Need(most)) && r.Intn(4) > 0 {
			l = append(l, Block{No: no, Data: block(byte(r.Intn(256)))})
		}
	}
	return l
}

// raw is what each block of a disk holds.
func raw(t *testing.T, d *disk.Disk) [][]byte {
	t.Helper()
	var all [][]byte
	for i := range d.Blocks() {
		b, err := d.Read(i)
		if err != nil {
			t.Fatal(err)
		}
		all = append(all, b)
	}
	return all
}

// laid is now with l laid into it.
func laid(now [][]byte, l []Block) [][]byte {
	next := slices.Clone(now)
	for _, b := range l {
		next[b.No] = b.Data
	}
	return next
}

// same is whether a and b are the same, the own blocks from at on aside.
func same(a, b [][]byte, at, own int) bool {
	for i := range a {
		if (i < at || i >= at+own) && !bytes.Equal(a[i], b[i]) {
			return false
		}
	}
	return true
}

// TestAnyBytes: whatever lies in the Journal's blocks, Open ends, and what is no group is not done.
func TestAnyBytes(t *testing.T) { // 4.4; W9
	r := rand.New(rand.NewSource(9))
	for i := range 2000 {
		d := made(t, 40)
		at, most := 3, 20
		for k := range Need(most) {
			b := make([]byte, api.Block)
			r.Read(b)
			if k == 0 && i%2 == 0 {
				copy(b, []byte{byte(r.Intn(30)), 0, 0, 0, 0, 0, 0, 0})
			}
			if err := d.Write(at+k, b); err != nil {
				t.Fatal(err)
			}
		}
		before := raw(t, d)
		j := opened(t, d, at, most)
		if !same(before, raw(t, d), at, Need(most)) {
			t.Fatal("changed")
		}
		l := few(28, 9, 1)
		if err := j.Commit(l); err != nil {
			t.Fatal(err)
		}
		holds(t, d, l)
	}
}

// TestFalseGroups: heads whose digest is right, of groups that no Commit took.
func TestFalseGroups(t *testing.T) { // 4.4; W9
	at, most := 30, 5
	write := func(d *disk.Disk, count uint64, l []Block) {
		body := written(l)
		for i := range min(len(body)/api.Block, 40-at-1) {
			if err := d.Write(at+1+i, part(body, i)); err != nil {
				t.Fatal(err)
			}
		}
		h := make([]byte, api.Block)
		put(h, 0, count)
		put(h, 1, digest(h, body))
		if err := d.Write(at, h); err != nil {
			t.Fatal(err)
		}
	}
	ok := block(1)
	wrongs := []struct {
		count uint64
		l     []Block
	}{
		{1, []Block{{40, ok}}}, {1, []Block{{-1, ok}}}, {1, []Block{{math.MinInt, ok}}}, {1, []Block{{math.MaxInt, ok}}},
		{1, []Block{{30, ok}}}, {1, []Block{{31, ok}}}, {1, []Block{{32, ok}}},
		{2, []Block{{1, ok}, {1, ok}}}, {2, []Block{{1, ok}, {99, ok}}}, {2, []Block{{1, ok}}},
		{0, nil}, {0, few(1, 1, 1)}, {9, few(1, 9, 1)}, {200, few(1, 5, 1)}, {201, few(1, 5, 1)},
		{math.MaxUint64, few(1, 1, 1)}, {1 << 63, few(1, 1, 1)}, {1<<32 + 1, few(1, 1, 1)},
	}
	for i, w := range wrongs {
		d := made(t, 40)
		write(d, w.count, w.l)
		before := raw(t, d)
		opened(t, d, at, most)
		if !same(before, raw(t, d), 0, 0) {
			t.Error(i, "changed")
		}
	}
	d := made(t, 40)
	write(d, 5, few(1, 5, 1))
	opened(t, d, at, most)
	holds(t, d, few(1, 5, 1))
}

// TestOtherMost: a group under way is whole or nothing, whatever most the Journal is opened with then.
func TestOtherMost(t *testing.T) { // 4.2
	l := few(60, 20, 1)
	l[3].No = 30 // within a Journal of a greater most
	for _, most := range []int{1, 5, 19, 20, 21, 50} {
		for k := range 45 {
			d := made(t, 100)
			j := opened(t, d, 0, 20)
			d.Fuse(k)
			err := j.Commit(l)
			d.Power()
			j = opened(t, d, 0, most)
			if j.Most() != most {
				t.Error(j.Most())
			}
			if one, all := parts(t, d, l); !all || err == nil && !one {
				t.Error(most, k, err)
			}
		}
	}
}

// TestTwo: two Journals on one disk, one behind the other, do not touch each other's blocks.
func TestTwo(t *testing.T) { // 4.2
	for k := range 30 {
		d := made(t, 60)
		a := opened(t, d, 0, 5)
		d.Fuse(k)
		err := a.Commit(few(30, 5, 1))
		d.Power()
		if err := opened(t, d, 8, 5).Commit(few(40, 5, 50)); err != nil {
			t.Fatal(err)
		}
		opened(t, d, 0, 5)
		if one, all := parts(t, d, few(30, 5, 1)); !all || err == nil && !one {
			t.Error(k, err)
		}
		holds(t, d, few(40, 5, 50))
	}
}
