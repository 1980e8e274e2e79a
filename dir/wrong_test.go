package dir

import (
	"bytes"
	"errors"
	"fmt"
	"math"
	"math/rand"
	"regexp"
	"slices"
	"strings"
	"testing"

	"credenza/api"
	"credenza/fault"
)

// one is a record as a pattern, a second telling of what the program reads by hand.
var one = regexp.MustCompile(`(?s)^([\x01-\x1b])([a-zA-Z0-9.+_~-]{1,27})(\x00*)(.{4})$`)

// told is the names that b is, by the pattern; false, if it is none.
func told(b []byte) ([]pair, bool) {
	if len(b)%32 != 0 {
		return nil, false
	}
	var l []pair
	ids := map[string]int{}
	for i := 0; i < len(b); i += 32 {
		// The pattern goes by runes: a byte each.
		var text []rune
		for _, c := range b[i : i+32] {
			text = append(text, rune(c))
		}
		found := one.FindStringSubmatch(string(text))
		if found == nil || int(found[1][0]) != len(found[2]) || found[2] == "." || found[2] == ".." || ids[found[2]] != 0 {
			return nil, false
		}
		id := 0
		for _, c := range []rune(found[4]) {
			id = id*256 + int(c)
		}
		if id == 0 {
			return nil, false
		}
		ids[found[2]] = id
		l = append(l, pair{found[2], id})
	}
	return l, true
}

// broken looks whether each call tells that the bytes are no records, and nothing is changed by asking.
func (r *rig) broken(t *testing.T) {
	t.Helper()
	was, changed := r.bytes(t), r.c.Changed()
	for i, err := range r.all(t, "a", "b") {
		says(t, err, names("a")[i], api.ErrForm)
	}
	says(t, r.dir.Turn("a", "a"), "a", api.ErrForm)
	if b, l := r.bytes(t), r.c.Changed(); !bytes.Equal(b, was) || !slices.Equal(l, changed) {
		t.Errorf("%q, not %q; %v, not %v", b, was, l, changed)
	}
}

func TestForm(t *testing.T) { // 10.1, 10.2, W9
	good := string(laid([]pair{{"a", 5}}))
	long := string(laid([]pair{{strings.Repeat("b", 27), 5}}))
	for _, s := range []string{
		"\x00", good[:1], good[:31], good + "x", good + good[:31], strings.Repeat("\x00", 32), strings.Repeat("\x00", 4000), strings.Repeat("\xff", 4000), strings.Repeat("a", 3999), // no whole records, or none
		"\x00" + good[1:], "\x02" + good[1:], "\x1b" + good[1:], "\x1c" + good[1:], "\x1d" + good[1:], "\x1f" + good[1:], "\x20" + good[1:], "\x7f" + good[1:], "\x80" + good[1:], "\xff" + good[1:], "\x1a" + long[1:], "\x1c" + long[1:], "\x1c" + strings.Repeat("b", 28) + good[29:], // a length
		"\x01/" + good[2:], "\x01." + good[2:], "\x02.." + good[3:], "\x01 " + good[2:], "\x01\xe4" + good[2:], "\x03a\x00b" + good[4:], // a name
		"\x01a\x01" + good[3:], "\x01aa" + good[3:], good[:27] + "\x01" + good[28:], // bytes behind it
		good[:31] + "\x00", good + good[:31] + "\x00", // an id
		good + good, good + long + good, good + long + good[:31] + "\x06", // a name twice
		long + good + "\x02" + good[1:], // the last of several
	} {
		r := made(t, 3, 60, 80)
		r.raw(t, []byte(s))
		if _, ok := told(r.bytes(t)); ok {
			t.Errorf("the pattern takes %q", s)
		}
		r.broken(t)
	}
}

// TestFormOrder: what is wrong about an argument is told ahead of what is wrong about the bytes.
func TestFormOrder(t *testing.T) { // 10.1; DOC.md, rule 5
	r := made(t, 3, 60, 80)
	r.raw(t, []byte("no records"))
	for _, s := range wrongNames() {
		_, err := r.dir.Find(s)
		says(t, err, s, api.ErrName)
		says(t, r.dir.Put(s, 5), s, api.ErrName)
		says(t, r.dir.Drop(s), s, api.ErrName)
		says(t, r.dir.Turn(s, "a"), s, api.ErrName)
		says(t, r.dir.Turn("a", s), s, api.ErrName)
	}
	says(t, r.dir.Put("a", 0), "a", api.ErrArg)
	says(t, r.dir.Put("a", 201), "a", api.ErrArg)
}

// TestEachByte: whatever one byte of some records is, it is answered as the pattern says.
func TestEachByte(t *testing.T) { // 10.1, 10.2, W9
	base := laid([]pair{{"a", 5}, {"ab.conf", 0x01000006}, {strings.Repeat("x", 27), 200}})
	r := made(t, 3, 60, 80)
	r.raw(t, base)
	good, bad := 0, 0
	for i := range base {
		for c := range 256 {
			done(t, r.x.Write(1, i, []byte{byte(c)}))
			l, ok := told(r.bytes(t))
			if ok {
				good++
				r.holds(t, l)
				continue
			}
			bad++
			_, err := r.dir.Find("a")
			says(t, err, "a", api.ErrForm)
			n, err := r.dir.Len()
			if n != 0 {
				t.Error(n)
			}
			says(t, err, "", api.ErrForm)
		}
		done(t, r.x.Write(1, i, base[i:i+1]))
	}
	if good < 3000 || bad < 10000 { // or the test would say little
		t.Error(good, bad)
	}
}

// TestAnyBytes: whatever the bytes are, each call answers as the pattern says.
func TestAnyBytes(t *testing.T) { // 10.2, 10.3, W9, W10
	g := rand.New(rand.NewSource(10))
	r := made(t, 3, 60, 80)
	good := 0
	for range 3000 {
		b := laid(some(g.Intn(1 + g.Intn(126))))
		for range g.Intn(3) {
			if len(b) > 0 {
				b[g.Intn(len(b))] = []byte{0, 1, 2, 27, 28, 'a', '/', '.', byte(g.Intn(256))}[g.Intn(9)]
			}
		}
		if g.Intn(4) == 0 {
			b = b[:g.Intn(len(b)+1)]
		}
		if g.Intn(10) == 0 {
			b = make([]byte, g.Intn(4001))
			g.Read(b)
		}
		r.raw(t, b)
		l, ok := told(b)
		if !ok {
			r.broken(t)
			continue
		}
		good++
		r.holds(t, l)
	}
	if good < 500 {
		t.Error(good)
	}
}

// TestBelow: what the inode tells of its own form is wrapped.
func TestBelow(t *testing.T) { // 10.1 and Ways
	r := made(t, 3, 60, 80)
	r.fill(t, some(9))
	first, err := r.x.Blocks(1)
	done(t, err)
	done(t, r.m.Give(first[1]))
	for i, err := range r.all(t, "a", "b") {
		name := names("a")[i]
		tells(t, err, name, strings.TrimRight("dir "+name, " ")+": inode 1: error 3")
	}
}

// TestFull: a Put that blocks are wanting for tells so, and changes nothing; what needs none is done.
func TestFull(t *testing.T) { // 10.1 and Ways; DOC.md, rule 8
	for data := 1; data <= 20; data++ {
		r := made(t, 3, data, 80)
		var l []pair
		for i := range 120 {
			p := pair{fmt.Sprint("n", i), 1 + i}
			was := r.c.Changed()
			err := r.dir.Put(p.name, p.id)
			if err != nil {
				tells(t, err, p.name, "dir "+p.name+": inode 1: error 15")
				says(t, r.dir.Put("n0", 5), "n0", api.ErrExists)
				if now := r.c.Changed(); !slices.Equal(now, was) {
					t.Error(now, was)
				}
				break
			}
			l = append(l, p)
		}
		want := 4 * data // a block of numbers holds no names
		if data > 8 {
			want = 4 * max(8, data-1)
		}
		if len(l) != want {
			t.Error(data, len(l), want)
		}
		r.holds(t, l)
		done(t, r.dir.Turn("n0", "zero"))
		done(t, r.dir.Drop("zero"))
		done(t, r.dir.Put("one.more", 1))
	}
}

// TestDead: on a dead disk each call says where, and the step is as it was.
func TestDead(t *testing.T) { // 10.1 and Ways
	r := made(t, 3, 60, 80)
	l := some(50)
	r.fill(t, l)
	done(t, r.c.Flush())
	r.d.Fuse(0)
	a := l[3].name
	for i, err := range r.all(t, a, "b") {
		name := names(a)[i]
		tells(t, err, name, strings.TrimRight("dir "+name, " ")+": inode 1: cache 10: journal: disk 10: error 50")
	}
	if now := r.c.Changed(); len(now) != 0 {
		t.Error(now)
	}
	says(t, r.dir.Put("/", 5), "/", api.ErrName)
	says(t, r.dir.Put("a", 0), "a", api.ErrArg)
	r.d.Power()
	r.holds(t, l)
	for _, no := range []int{at, bits, from, from + 8, from + 12} { // some blocks are the step's, the others the disk's
		done(t, r.c.Write(no, 0, nil))
		r.d.Fuse(0)
		for i, err := range r.all(t, a, "b") {
			f, ok := err.(*api.Fault)
			if !ok || f.Op != "dir" || f.Name != names(a)[i] || !errors.Is(err, api.ErrDead) {
				t.Error(no, i, err)
			}
		}
		r.d.Power()
		r.holds(t, l)
	}
}

// TestTooMany: a step that may not change so many blocks tells what the cache told, and the names and all blocks are as they were.
func TestTooMany(t *testing.T) { // 10.1 and Ways; DOC.md, rule 8
	refused, did := 0, 0
	for most := 1; most <= 7; most++ {
		for _, n := range []int{1, 4, 5, 8, 9, 32, 33, 36, 37, 38, 119} {
			r := made(t, 3, 60, 80)
			l := some(n)
			r.fill(t, l)
			done(t, r.c.Flush())
			r.open(t, most)
			for before := range most + 1 {
				for _, i := range []int{0, n / 2, n - 1} {
					for kind, do := range []func() error{
						func() error { return r.dir.Drop(l[i].name) },
						func() error { return r.dir.Put("new", 9) },
						func() error { return r.dir.Turn(l[i].name, "new") },
					} {
						for k := range before {
							done(t, r.c.Write(200+k, 5, []byte("other")))
						}
						was, changed := r.image(t), r.c.Changed()
						err := do()
						if err == nil {
							did++
						} else {
							refused++
							if fault.Num(err) != api.ErrBig || fault.Ops(err)[0] != "dir" || fault.Ops(err)[1] != "inode" {
								t.Fatal(fault.Text(err))
							}
							if !slices.EqualFunc(r.image(t), was, bytes.Equal) {
								t.Fatal(most, n, before, i, "not as it was")
							}
							// A Drop of two writes lays bytes back, but cannot make the cache forget that it was asked.
							if now := r.c.Changed(); (kind != 0 || i == n-1) && !slices.Equal(now, changed) {
								t.Fatal(now, changed)
							}
							r.holds(t, l)
						}
						r.c.Drop()
					}
				}
			}
			r.holds(t, l)
		}
	}
	if refused < 500 || did < 500 { // or the test would say little
		t.Error(refused, did)
	}
}

// image is what each block holds, as the Cache tells it.
func (r *rig) image(t testing.TB) [][]byte {
	t.Helper()
	var all [][]byte
	for no := range from + r.data {
		b, err := r.c.Read(no)
		done(t, err)
		all = append(all, b)
	}
	return all
}

// model is what the directory is to be.
type model []pair

// is says whether the directory's bytes are the model's.
func (m model) is(t testing.TB, r *rig) bool {
	return bytes.Equal(r.bytes(t), laid(m))
}

// at is the place of a name; below 0, if it has none.
func (m model) at(s string) int {
	return slices.IndexFunc(m, func(p pair) bool { return p.name == s })
}

// put is the model behind a Put, which must tell what the chapter says.
func (m model) put(t testing.TB, r *rig, s string, id int) model {
	t.Helper()
	err := r.dir.Put(s, id)
	switch {
	case id < 1 || id > 200:
		says(t, err, s, api.ErrArg)
	case m.at(s) >= 0:
		says(t, err, s, api.ErrExists)
	case len(m) == 120:
		says(t, err, s, api.ErrMany)
	default:
		done(t, err)
		return append(slices.Clone(m), pair{s, id})
	}
	return m
}

// drop is the model behind a Drop.
func (m model) drop(t testing.TB, r *rig, s string) model {
	t.Helper()
	err := r.dir.Drop(s)
	i := m.at(s)
	if i < 0 {
		says(t, err, s, api.ErrNone)
		return m
	}
	done(t, err)
	m = slices.Clone(m)
	m[i] = m[len(m)-1]
	return m[:len(m)-1]
}

// turn is the model behind a Turn.
func (m model) turn(t testing.TB, r *rig, a, b string) model {
	t.Helper()
	err := r.dir.Turn(a, b)
	switch {
	case m.at(a) < 0:
		says(t, err, a, api.ErrNone)
	case a != b && m.at(b) >= 0:
		says(t, err, b, api.ErrExists)
	default:
		done(t, err)
		m = slices.Clone(m)
		m[m.at(a)].name = b
	}
	return m
}

// TestLives: by whatever calls, steps and deaths, the directory is a list of names with ids.
func TestLives(t *testing.T) { // 10.2, W1, W2
	g := rand.New(rand.NewSource(102))
	for range 40 {
		r := made(t, 3, 60, 80)
		reach := 1 + g.Intn(200)
		any := func() string { return fmt.Sprint("n", g.Intn(reach)) }
		var last, now model
		for range 300 {
			switch k := g.Intn(40); {
			case k < 18:
				now = now.put(t, r, any(), g.Intn(204)-1)
			case k < 26:
				now = now.drop(t, r, any())
			case k < 32:
				now = now.turn(t, r, any(), any())
			case k < 34:
				r.c.Drop()
				now = last
			case k < 38:
				done(t, r.c.Flush())
				last = now
			default:
				r.d.Fuse(g.Intn(20))
				err := r.c.Flush()
				r.d.Power()
				r.open(t, 80)
				if !now.is(t, r) {
					if err == nil || !last.is(t, r) {
						t.Fatal("neither as ahead nor as behind", err)
					}
					now = last
				}
				last = now
			}
			if !now.is(t, r) {
				t.Fatal("not what was done")
			}
		}
		r.holds(t, now)
	}
}

// TestHostile: over blocks of any bytes each call ends, and tells a Fault of its own or nothing.
func TestHostile(t *testing.T) { // 10.3, W9, W10
	g := rand.New(rand.NewSource(103))
	texts := append(wrongNames(), "a", "b", "n5", "c.conf", strings.Repeat("x", 27))
	any := func() string { return texts[g.Intn(len(texts))] }
	numbers := []int{0, 1, 2, 200, 201, -1, math.MaxInt, math.MinInt}
	for range 400 {
		r := made(t, 3, 60, 1+g.Intn(80))
		for range g.Intn(30) {
			b := make([]byte, 1+g.Intn(40))
			g.Read(b)
			if g.Intn(2) == 0 {
				b = []byte{2, byte(g.Intn(16)), byte(32 * g.Intn(8)), 0, 0, 1, 44, 0, 0, 1, 45}
			}
			r.c.Write([]int{bits, at, at, at + 1, from, from + g.Intn(60)}[g.Intn(6)], g.Intn(2)*g.Intn(80), b)
		}
		for range 60 {
			a, b := any(), any()
			about, err := []string{a}, error(nil)
			switch g.Intn(6) {
			case 0:
				_, err = r.dir.Find(a)
			case 1:
				err = r.dir.Put(a, numbers[g.Intn(len(numbers))])
			case 2:
				err = r.dir.Drop(a)
			case 3:
				err = r.dir.Turn(a, b)
				about = append(about, b)
			case 4:
				_, err = r.dir.List()
				about = []string{""}
			case 5:
				_, err = r.dir.Len()
				about = []string{""}
			}
			if f, ok := err.(*api.Fault); err != nil && (!ok || f.Op != "dir" || !slices.Contains(about, f.Name)) {
				t.Fatal(err)
			}
		}
	}
}
