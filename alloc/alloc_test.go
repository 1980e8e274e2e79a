package alloc

import (
	"bytes"
	"errors"
	"math"
	"math/rand"
	"slices"
	"strconv"
	"testing"

	"credenza/api"
	"credenza/cache"
	"credenza/disk"
	"credenza/fault"
	"credenza/journal"
)

// The disk of the tests: blocks 0 to 29 are the Cache's, the Journal's own stand from 30 on.
const (
	size = 50
	own  = 30
)

// made is a disk of noughts, and a Cache on it for steps of at most most blocks.
func made(t testing.TB, most int) (*disk.Disk, *cache.Cache) {
	t.Helper()
	d, err := disk.New(size)
	if err != nil {
		t.Fatal(err)
	}
	return d, opened(t, d, most)
}

// opened is a Cache on a Journal that is opened anew.
func opened(t testing.TB, d *disk.Disk, most int) *cache.Cache {
	t.Helper()
	j, err := journal.Open(d, own, most)
	if err != nil {
		t.Fatal(err)
	}
	c, err := cache.New(j, own)
	if err != nil {
		t.Fatal(err)
	}
	return c
}

// mapped is a Map that must be made.
func mapped(t testing.TB, c *cache.Cache, at, from, n int) *Map {
	t.Helper()
	m, err := New(c, at, from, n)
	if m == nil || err != nil {
		t.Fatal(at, from, n, err)
	}
	return m
}

// lay fills block no of the Cache with one byte.
func lay(t testing.TB, c *cache.Cache, no int, b byte) {
	t.Helper()
	if err := c.Write(no, 0, bytes.Repeat([]byte{b}, api.Block)); err != nil {
		t.Fatal(err)
	}
}

// takes is some Takes that must answer want.
func takes(t testing.TB, m *Map, want ...int) {
	t.Helper()
	for _, no := range want {
		if got, err := m.Take(); got != no || err != nil {
			t.Fatalf("%d, %v, not %d", got, err, no)
		}
	}
}

// gives is some Gives that must be done.
func gives(t testing.TB, m *Map, l ...int) {
	t.Helper()
	for _, no := range l {
		if err := m.Give(no); err != nil {
			t.Fatal(no, err)
		}
	}
}

// upTo are the numbers from a on, as many as n.
func upTo(a, n int) []int {
	var l []int
	for i := range n {
		l = append(l, a+i)
	}
	return l
}

// holds looks whether just these of the n blocks from from on are taken, by all that can be asked.
func holds(t testing.TB, m *Map, from, n int, want ...int) {
	t.Helper()
	if got, err := m.All(); !slices.Equal(got, want) || err != nil {
		t.Fatalf("taken are %v, %v, not %v", got, err, want)
	}
	if got, err := m.Free(); got != n-len(want) || err != nil {
		t.Fatalf("%d are free, %v, not %d", got, err, n-len(want))
	}
	for no := from; no < from+n; no++ {
		if got, err := m.Taken(no); got != slices.Contains(want, no) || err != nil {
			t.Fatal(no, got, err)
		}
	}
}

// tells looks whether err is just such a text, and a Fault of alloc and the name.
func tells(t testing.TB, err error, name, text string) {
	t.Helper()
	f, ok := err.(*api.Fault)
	if !ok || f.Op != "alloc" || f.Name != name || fault.Text(err) != text {
		t.Errorf("%s, not %s", fault.Text(err), text)
	}
}

func TestNew(t *testing.T) { // 7.1
	d, c := made(t, 4)
	for _, x := range []struct {
		c           *cache.Cache
		at, from, n int
	}{
		{nil, 0, 5, 5}, {nil, -1, -1, 0},
		{c, 0, 5, 0}, {c, 0, 5, -1}, {c, 0, 5, math.MinInt}, {c, 0, 5, 2049}, {c, 0, 5, math.MaxInt},
		{c, -1, 5, 5}, {c, math.MinInt, 5, 5}, {c, 0, -1, 5}, {c, 0, math.MinInt, 5}, {c, -1, -1, 2049},
	} {
		m, err := New(x.c, x.at, x.from, x.n)
		if m != nil {
			t.Error(x)
		}
		tells(t, err, "", "alloc: error 1")
	}
	d.Fuse(0) // nothing is read or written as yet, also where no block of bits is
	for _, x := range [][3]int{
		{0, 0, 1}, {0, 0, 2048}, {5, 5, 5}, {own, 0, 1}, {math.MaxInt, 0, 2048}, {0, math.MaxInt, 2048}, {math.MaxInt, math.MaxInt, 1},
	} {
		mapped(t, c, x[0], x[1], x[2])
	}
	if l := c.Changed(); len(l) != 0 {
		t.Error(l)
	}
}

// TestNewNeighbours: noughts are all free, whatever stands around them; and nothing but the bits is touched.
func TestNewNeighbours(t *testing.T) { // 7.1
	for _, n := range []int{1, 7, 8, 9, 1023, 1024, 1025, 2047, 2048} {
		_, c := made(t, 10)
		lay(t, c, 4, 255)
		lay(t, c, 5+(n+1023)/1024, 255)
		if err := c.Flush(); err != nil {
			t.Fatal(err)
		}
		m := mapped(t, c, 5, 100, n)
		holds(t, m, 100, n)
		takes(t, m, upTo(100, n)...)
		holds(t, m, 100, n, upTo(100, n)...)
		if l := c.Changed(); !slices.Equal(l, upTo(5, (n+1023)/1024)) {
			t.Error(n, l)
		}
	}
}

func TestTake(t *testing.T) { // 7.1 and the chapter's example
	for _, n := range []int{1, 2, 8, 9, 1024, 1025, 2048} {
		_, c := made(t, 4)
		m := mapped(t, c, 3, 50, n)
		if n > 1 {
			takes(t, m, 50, 51)
			gives(t, m, 50)
			takes(t, m, 50)
			gives(t, m, 51, 50)
		}
		takes(t, m, upTo(50, n)...)
		for range 2 {
			no, err := m.Take()
			if no != 0 {
				t.Error(no)
			}
			tells(t, err, "", "alloc: error 15")
		}
		holds(t, m, 50, n, upTo(50, n)...)
	}
}

func TestTakeLeast(t *testing.T) { // 7.1
	_, c := made(t, 4)
	m := mapped(t, c, 0, 0, 2048)
	takes(t, m, upTo(0, 2048)...)
	l := []int{2047, 1024, 7, 8, 0, 1023, 1500, 63, 64}
	gives(t, m, l...)
	if n, err := m.Free(); n != len(l) || err != nil {
		t.Error(n, err)
	}
	slices.Sort(l)
	takes(t, m, l...)
	_, err := m.Take()
	tells(t, err, "", "alloc: error 15")
}

func TestGive(t *testing.T) { // 7.1; DOC.md, rule 8
	for _, n := range []int{1, 8, 1024, 1025} {
		_, c := made(t, 4)
		m := mapped(t, c, 3, 50, n)
		for _, no := range []int{50, 49 + n} {
			tells(t, m.Give(no), strconv.Itoa(no), "alloc "+strconv.Itoa(no)+": error 7")
		}
		takes(t, m, upTo(50, n)...)
		for _, no := range []int{
			49, 50 + n, 0, 3, -1, -50, 50 + 1024*8, 2000000, math.MaxInt, math.MaxInt - 50, math.MinInt, math.MinInt + 49, math.MinInt + 50,
			math.MinInt + 51,
		} {
			text := "alloc " + strconv.Itoa(no) + ": error 1"
			tells(t, m.Give(no), strconv.Itoa(no), text)
			taken, err := m.Taken(no)
			if taken {
				t.Error(no)
			}
			tells(t, err, strconv.Itoa(no), text)
		}
		holds(t, m, 50, n, upTo(50, n)...)
		for k := range n {
			gives(t, m, 50+k)
			tells(t, m.Give(50+k), strconv.Itoa(50+k), "alloc "+strconv.Itoa(50+k)+": error 7")
		}
		holds(t, m, 50, n)
	}
}

// TestStrayBits: bits behind the last block are neither told nor changed.
func TestStrayBits(t *testing.T) { // 7.1, W9
	for _, n := range []int{1, 3, 7, 8, 13, 1023, 1025, 2047} {
		_, c := made(t, 4)
		lay(t, c, 0, 255)
		lay(t, c, 1, 255)
		m := mapped(t, c, 0, 9, n)
		holds(t, m, 9, n, upTo(9, n)...)
		for no := 9; no < 9+n; no++ {
			gives(t, m, no)
		}
		holds(t, m, 9, n)
		for i := n; i < 2048; i++ { // a wider one sees those that were left
			if i%97 != 0 && i > n+9 {
				continue
			}
			if ok, err := mapped(t, c, 0, 0, 2048).Taken(i); !ok || err != nil {
				t.Fatal(n, i, err)
			}
		}
		lay(t, c, 0, 0)
		lay(t, c, 1, 0)
		m = mapped(t, c, 0, 9, n)
		takes(t, m, upTo(9, n)...)
		if _, err := m.Take(); !errors.Is(err, api.ErrFull) {
			t.Error(n, err)
		}
		holds(t, mapped(t, c, 0, 0, 2048), 0, 2048, upTo(0, n)...)
	}
}

// TestBytes: whatever stands in the blocks of bits, all calls agree on it.
func TestBytes(t *testing.T) { // 7.1, W9
	r := rand.New(rand.NewSource(7))
	for range 30 {
		_, c := made(t, 4)
		for no := range 2 {
			b := make([]byte, api.Block)
			r.Read(b)
			if err := c.Write(no, 0, b); err != nil {
				t.Fatal(err)
			}
		}
		n := 1 + r.Intn(2048)
		m := mapped(t, c, 0, 31, n)
		all, err := m.All()
		if err != nil || !slices.IsSorted(all) {
			t.Fatal(err)
		}
		holds(t, m, 31, n, all...)
		for no := 31; no < 31+n; no++ {
			if !slices.Contains(all, no) {
				takes(t, m, no)
			}
		}
		holds(t, m, 31, n, upTo(31, n)...)
	}
}

// TestGreatNumbers: blocks that no int tells are not there; those before them are.
func TestGreatNumbers(t *testing.T) { // 7.1, 7.3
	for k := range 4 {
		_, c := made(t, 4)
		m := mapped(t, c, 0, math.MaxInt-k, 2048)
		takes(t, m, upTo(math.MaxInt-k, k+1)...)
		no, err := m.Take()
		if no != 0 {
			t.Error(no)
		}
		tells(t, err, "", "alloc: error 15")
		if l, err := m.All(); !slices.Equal(l, upTo(math.MaxInt-k, k+1)) || err != nil {
			t.Error(l, err)
		}
		for _, no := range []int{math.MinInt, math.MinInt + 1, -1, 0, math.MaxInt - k - 1} {
			tells(t, m.Give(no), strconv.Itoa(no), "alloc "+strconv.Itoa(no)+": error 1")
		}
		gives(t, m, math.MaxInt)
		if n, err := m.Free(); n != 1 || err != nil {
			t.Error(n, err)
		}
	}
}

// TestNoBits: where the cache has no block of bits each call says so.
func TestNoBits(t *testing.T) { // 7.1 and Ways
	_, c := made(t, 4)
	for _, at := range []int{own, size, math.MaxInt} {
		m := mapped(t, c, at, 50, 2048)
		text := "cache " + strconv.Itoa(at) + ": error 1"
		all(t, m, 50, text)
	}
	m := mapped(t, c, math.MaxInt, 0, 2048)
	if _, err := m.Taken(1024); !errors.Is(err, api.ErrArg) {
		t.Error(err)
	}
	half := mapped(t, c, own-1, 50, 1500) // the second block of bits is not there
	takes(t, half, upTo(50, 1024)...)
	_, err := half.Take()
	tells(t, err, "", "alloc: cache 30: error 1")
	_, err = half.Free()
	tells(t, err, "", "alloc: cache 30: error 1")
	tells(t, half.Give(50+1024), "1074", "alloc 1074: cache 30: error 1")
	gives(t, half, 50+1023)
}

// all looks whether all calls tell what the cache told.
func all(t *testing.T, m *Map, no int, text string) {
	t.Helper()
	n, err := m.Take()
	if n != 0 {
		t.Error(n)
	}
	tells(t, err, "", "alloc: "+text)
	n, err = m.Free()
	if n != 0 {
		t.Error(n)
	}
	tells(t, err, "", "alloc: "+text)
	l, err := m.All()
	if len(l) != 0 {
		t.Error(l)
	}
	tells(t, err, "", "alloc: "+text)
	name := strconv.Itoa(no)
	tells(t, m.Give(no), name, "alloc "+name+": "+text)
	taken, err := m.Taken(no)
	if taken {
		t.Error(no)
	}
	tells(t, err, name, "alloc "+name+": "+text)
}

func TestDead(t *testing.T) { // 7.1 and Ways
	d, c := made(t, 4)
	m := mapped(t, c, 3, 50, 100)
	takes(t, m, 50, 51)
	if err := c.Flush(); err != nil {
		t.Fatal(err)
	}
	d.Fuse(0)
	all(t, m, 50, "cache 3: journal: disk 3: error 50")
	tells(t, m.Give(49), "49", "alloc 49: error 1") // ahead of what the disk tells
	d.Power()
	holds(t, m, 50, 100, 50, 51)
}

// TestTooMany: a step that has changed as many blocks as it may can't take or give any more, and nothing is changed by trying.
func TestTooMany(t *testing.T) { // 7.1 and Ways; DOC.md, rule 8
	_, c := made(t, 2)
	m := mapped(t, c, 3, 50, 100)
	takes(t, m, 50)
	if err := c.Flush(); err != nil {
		t.Fatal(err)
	}
	lay(t, c, 10, 1)
	lay(t, c, 11, 1)
	for range 2 {
		no, err := m.Take()
		if no != 0 {
			t.Error(no)
		}
		tells(t, err, "", "alloc: cache 3: error 5")
		tells(t, m.Give(50), "50", "alloc 50: cache 3: error 5")
		tells(t, m.Give(51), "51", "alloc 51: error 7") // it is free, whatever the step may change
		holds(t, m, 50, 100, 50)
	}
	c.Drop()
	takes(t, m, 51)
}

// TestSteps: what was taken is dropped with its step, and lasts behind its Flush.
func TestSteps(t *testing.T) { // 7.1
	d, c := made(t, 4)
	m := mapped(t, c, 3, 50, 100)
	takes(t, m, 50, 51, 52)
	if b, err := d.Read(3); err != nil || !bytes.Equal(b, make([]byte, api.Block)) {
		t.Error("written early")
	}
	c.Drop()
	holds(t, m, 50, 100)
	takes(t, m, 50, 51, 52)
	if err := c.Flush(); err != nil {
		t.Fatal(err)
	}
	gives(t, m, 51)
	holds(t, m, 50, 100, 50, 52)
	c.Drop()
	holds(t, m, 50, 100, 50, 51, 52)
	gives(t, m, 51)
	if err := c.Flush(); err != nil {
		t.Fatal(err)
	}
	holds(t, mapped(t, opened(t, d, 4), 3, 50, 100), 50, 100, 50, 52)
}

func TestMemory(t *testing.T) { // DOC.md, rule 3
	_, c := made(t, 4)
	m := mapped(t, c, 3, 50, 100)
	takes(t, m, 50, 51, 52)
	l, _ := m.All()
	again, _ := m.All()
	for i := range l[:cap(l)] {
		l[:cap(l)][i] = 99
	}
	if !slices.Equal(again, []int{50, 51, 52}) {
		t.Error(again)
	}
	holds(t, m, 50, 100, 50, 51, 52)
}

// TestOnce: by whatever calls, steps and deaths, what is taken is had once, and what is free is free.
func TestOnce(t *testing.T) { // 7.2, W3
	r := rand.New(rand.NewSource(21))
	for range 40 {
		d, c := made(t, 2)
		n := 1 + r.Intn(1+r.Intn(2048))
		from := r.Intn(1000)
		m := mapped(t, c, 7, from, n)
		var last, now []int // what is had, behind the last Flush and within the step; both rising
		for range 300 {
			switch k := r.Intn(40); {
			case k < 24:
				now = taken(t, m, from, n, now)
			case k < 35:
				now = given(t, m, from+r.Intn(n), now)
			case k < 37:
				c.Drop()
				now = slices.Clone(last)
			case k < 39:
				if err := c.Flush(); err != nil {
					t.Fatal(err)
				}
				last = slices.Clone(now)
			default:
				d.Fuse(r.Intn(10))
				err := c.Flush()
				d.Power()
				c = opened(t, d, 2)
				m = mapped(t, c, 7, from, n)
				got, wrong := m.All()
				if wrong != nil || !slices.Equal(got, now) && (err == nil || !slices.Equal(got, last)) {
					t.Fatal("neither as ahead nor as behind", err, wrong)
				}
				last, now = slices.Clone(got), got
			}
		}
		holds(t, m, from, n, now...)
	}
}

// taken is what is had behind a Take.
func taken(t *testing.T, m *Map, from, n int, had []int) []int {
	t.Helper()
	no, err := m.Take()
	if len(had) == n {
		if no != 0 || !errors.Is(err, api.ErrFull) {
			t.Fatal(no, err)
		}
		return had
	}
	at, twice := slices.BinarySearch(had, no)
	if err != nil || twice || no < from || no >= from+n || no != from+at {
		t.Fatal(no, err, had)
	}
	return slices.Insert(had, at, no)
}

// given is what is had behind a Give.
func given(t *testing.T, m *Map, no int, had []int) []int {
	t.Helper()
	err := m.Give(no)
	at, ok := slices.BinarySearch(had, no)
	if !ok {
		if !errors.Is(err, api.ErrState) {
			t.Fatal(no, err)
		}
		return had
	}
	if err != nil {
		t.Fatal(no, err)
	}
	return slices.Delete(had, at, at+1)
}
