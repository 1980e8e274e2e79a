package conf

import (
	"errors"
	"fmt"
	"reflect"
	"strings"
	"testing"

	"credenza/api"
	"credenza/fault"
	"credenza/sum"
)

// The digests that the tests name.
const (
	one = "0123456789abcdef"
	two = "fedcba9876543210"
)

// done looks whether nothing went wrong.
func done(t testing.TB, err error) {
	t.Helper()
	if err != nil {
		t.Fatal(fault.Text(err))
	}
}

// tells looks whether err is a Fault of this layer, of that Name, with that number at the bottom, and the only one.
func tells(t testing.TB, err error, name string, n api.Errno) {
	t.Helper()
	f, ok := err.(*api.Fault)
	if !ok || f.Op != "conf" || f.Name != name || !errors.Is(err, n) || fault.Num(err) != n || fault.Depth(err) != 1 {
		t.Errorf("%q, not error %d of %q", fault.Text(err), n, name)
	}
}

// small is an entry that says no more than it must.
func small() api.Entry {
	return api.Entry{Version: "1", Kernel: api.Blob{Name: "k", Sum: one}}
}

// full is an entry with as much of each thing as there may be.
func full() api.Entry {
	e := api.Entry{Version: strings.Repeat("9", 40), Kernel: api.Blob{Name: strings.Repeat("k", 27), Sum: two}, Options: strings.Repeat("o", 200)}
	for i := range 8 {
		e.Extra = append(e.Extra, api.Blob{Name: fmt.Sprint(i, strings.Repeat("x", 26)), Sum: sum.Hex(uint64(i))})
	}
	return e
}

// fine looks whether e is Ok, and there and back the same.
func fine(t testing.TB, e api.Entry) {
	t.Helper()
	s, err := Print(e)
	if err != nil || !Ok(e) {
		t.Errorf("%q: %v %s", e, Ok(e), fault.Text(err))
		return
	}
	x, err := Parse(s)
	if err != nil || !Same(x, e) || show(x) != show(e) {
		t.Errorf("%q is read as %q: %s", e, x, fault.Text(err))
	}
}

// bad looks whether e is not Ok, and is not printed.
func bad(t testing.TB, e api.Entry) {
	t.Helper()
	s, err := Print(e)
	if s != "" || Ok(e) {
		t.Errorf("%q: %v, %q", e, Ok(e), s)
	}
	tells(t, err, "", api.ErrArg)
}

// show tells e whole, and a nil list as an empty one.
func show(e api.Entry) string {
	return fmt.Sprintf("%q %q %q %q", e.Version, e.Kernel, e.Extra, e.Options)
}

func TestPrint(t *testing.T) { // 14.1
	e := small()
	s, err := Print(e)
	done(t, err)
	if want := "version 1\nkernel k " + one + "\n"; s != want {
		t.Errorf("%q, not %q", s, want)
	}
	e.Extra = []api.Blob{{Name: "b", Sum: two}, {Name: "a", Sum: one}, {Name: "b", Sum: two}}
	e.Options = "quiet  root=/dev/a #x"
	s, err = Print(e)
	done(t, err)
	if want := "version 1\nkernel k " + one + "\nextra b " + two + "\nextra a " + one + "\nextra b " + two + "\noptions quiet  root=/dev/a #x\n"; s != want {
		t.Errorf("%q, not %q", s, want)
	}
}

func TestPrintOfEmptyList(t *testing.T) { // 14.1, rule 1
	a, b := small(), small()
	a.Extra, b.Extra = nil, []api.Blob{}
	s, err := Print(a)
	done(t, err)
	u, err := Print(b)
	done(t, err)
	if s != u || !Same(a, b) || !Ok(b) {
		t.Errorf("%q, %q", s, u)
	}
}

func TestOkOfAll(t *testing.T) { // 14.1, 14.3: the ordinary ones and the longest
	fine(t, small())
	fine(t, full())
	bad(t, api.Entry{})
}

func TestOkOfVersion(t *testing.T) { // 14.1: each byte, and each length
	for c := range 256 {
		for _, form := range []string{"%s", "%sa", "a%s", "a%sa"} {
			e := small()
			e.Version = strings.Replace(form, "%s", string([]byte{byte(c)}), 1)
			if c >= 33 && c <= 126 {
				fine(t, e)
			} else {
				bad(t, e)
			}
		}
	}
	for n := range 300 {
		e := small()
		e.Version = strings.Repeat("v", n)
		if n >= 1 && n <= 40 {
			fine(t, e)
		} else {
			bad(t, e)
		}
	}
}

func TestOkOfOptions(t *testing.T) { // 14.1: each byte at each end and between, and each length
	for c := range 256 {
		s := string([]byte{byte(c)})
		for _, x := range []string{s, s + "a", "a" + s, "a" + s + "a", "a" + s + s + "a"} {
			e := small()
			e.Options = x
			if c >= 33 && c <= 126 || c == 32 && len(x) > 2 {
				fine(t, e)
			} else {
				bad(t, e)
			}
		}
	}
	for n := range 300 {
		e := small()
		e.Options = strings.Repeat("o", n)
		if n <= 200 {
			fine(t, e)
		} else {
			bad(t, e)
		}
	}
}

// blobs are some, and whether an entry may name them.
func blobs() map[api.Blob]int {
	m := map[api.Blob]int{}
	for _, s := range []string{"a", "Z", "0", "...", "a.b+c-d_e~f", strings.Repeat("n", 27)} {
		m[api.Blob{Name: s, Sum: one}] = 1
	}
	for _, s := range []string{one, two, strings.Repeat("0", 16), strings.Repeat("f", 16)} {
		m[api.Blob{Name: "a", Sum: s}] = 1
	}
	for _, s := range []string{"", ".", "..", "a b", " a", "a ", "a/b", "/a", "a\n", "\x00", "ä", "#", strings.Repeat("n", 28)} {
		m[api.Blob{Name: s, Sum: one}] = 0
	}
	for _, s := range []string{"", "0", one[1:], one + "0", one + " ", " " + one, strings.ToUpper(one), one[:15] + "g", "0x" + one[:14], one[:15] + "\n"} {
		m[api.Blob{Name: "a", Sum: s}] = 0
	}
	return m
}

func TestOkOfBlobs(t *testing.T) { // 14.1: as the kernel, and as each of the extras
	for b, may := range blobs() {
		look := bad
		if may == 1 {
			look = fine
		}
		e := small()
		e.Kernel = b
		look(t, e)
		for i := range 8 {
			e := full()
			e.Extra[i] = b
			look(t, e)
		}
	}
}

func TestOkOfHowMany(t *testing.T) { // 14.1
	for n := range 20 {
		e := small()
		for range n {
			e.Extra = append(e.Extra, e.Kernel)
		}
		if n <= 8 {
			fine(t, e)
		} else {
			bad(t, e)
		}
	}
}

func TestBlobs(t *testing.T) { // 14.1: of any entry, whether it is Ok or not
	e := full()
	if l := Blobs(e); !reflect.DeepEqual(l, append([]api.Blob{e.Kernel}, e.Extra...)) {
		t.Errorf("%q", l)
	}
	if l := Blobs(small()); !reflect.DeepEqual(l, []api.Blob{{Name: "k", Sum: one}}) {
		t.Errorf("%q", l)
	}
	if l := Blobs(api.Entry{}); !reflect.DeepEqual(l, []api.Blob{{}}) {
		t.Errorf("%q", l)
	}
	e.Extra = make([]api.Blob, 1000)
	if l := Blobs(e); len(l) != 1001 || l[0] != e.Kernel {
		t.Errorf("%q", l)
	}
}

// turns are changes of a full entry, each of one thing alone.
func turns() []func(e *api.Entry) {
	return []func(e *api.Entry){
		func(e *api.Entry) { e.Version = "1" },
		func(e *api.Entry) { e.Version = "" },
		func(e *api.Entry) { e.Kernel.Name = "K" },
		func(e *api.Entry) { e.Kernel.Sum = one },
		func(e *api.Entry) { e.Options = "" },
		func(e *api.Entry) { e.Options = "O" },
		func(e *api.Entry) { e.Extra = nil },
		func(e *api.Entry) { e.Extra = e.Extra[1:] },
		func(e *api.Entry) { e.Extra = e.Extra[:7] },
		func(e *api.Entry) { e.Extra = append(e.Extra, api.Blob{}) },
		func(e *api.Entry) { e.Extra[7].Name = "y" },
		func(e *api.Entry) { e.Extra[0].Sum = two },
		func(e *api.Entry) { e.Extra[0], e.Extra[1] = e.Extra[1], e.Extra[0] },
	}
}

func TestSame(t *testing.T) { // 14.3: what is the same as what
	if !Same(full(), full()) || !Same(small(), small()) || !Same(api.Entry{}, api.Entry{Extra: []api.Blob{}}) {
		t.Error("the same")
	}
	if Same(small(), full()) || Same(full(), small()) {
		t.Error("others")
	}
	for i, turn := range turns() {
		e := full()
		turn(&e)
		if Same(e, full()) || Same(full(), e) || !Same(e, e) {
			t.Error(i)
		}
	}
}

func TestMemory(t *testing.T) { // rule 3: nothing that is handed in is changed or handed out, nor the room behind it
	room := make([]api.Blob, 12)
	for i := range room {
		room[i] = api.Blob{Name: fmt.Sprint(i), Sum: one}
	}
	before := fmt.Sprint(room)
	e := small()
	e.Extra = room[2:4]
	l := Blobs(e)
	l = l[:cap(l)]
	for i := range l {
		l[i] = api.Blob{Name: "gone"}
	}
	_, err := Print(e)
	done(t, err)
	Ok(e)
	Same(e, e)
	if fmt.Sprint(room) != before || e.Kernel != small().Kernel {
		t.Error(room, e)
	}
	if k := Blobs(e); k[0] != e.Kernel || k[1] != room[2] {
		t.Error(k)
	}
}
