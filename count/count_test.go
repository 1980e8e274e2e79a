package count

import (
	"fmt"
	"math"
	"regexp"
	"strconv"
	"strings"
	"testing"
	"unsafe"

	"credenza/api"
)

// A second telling of names, by another way than the package's own: by a pattern.
var aCounter = regexp.MustCompile(`(?s)^(.+)\+(0|[1-9][0-9]?)(?:-([1-9][0-9]?))?$`)

func wantSplit(file string) (string, api.Count, bool) {
	if len(file) < 6 || file[len(file)-5:] != ".conf" {
		return "", api.Count{}, false
	}
	stem := file[:len(file)-5]
	m := aCounter.FindStringSubmatchIndex(stem)
	if m == nil {
		return stem, api.Count{}, true
	}
	c := api.Count{Has: true}
	c.Left, _ = strconv.Atoi(stem[m[4]:m[5]])
	if m[6] >= 0 {
		c.Done, _ = strconv.Atoi(stem[m[6]:m[7]])
	}
	return stem[:m[3]], c, true
}

// wantJoin is the name of a stem and a count, by its own sentence.
func wantJoin(stem string, c api.Count) string {
	switch {
	case !c.Has:
		return stem + ".conf"
	case c.Done == 0:
		return fmt.Sprintf("%s+%d.conf", stem, c.Left)
	}
	return fmt.Sprintf("%s+%d-%d.conf", stem, c.Left, c.Done)
}

// has is a count of that many tries.
func has(left, done int) api.Count {
	return api.Count{Has: true, Left: left, Done: done}
}

// held holds Split of a file against the second telling, and what it tells, joined, against the file.
func held(t *testing.T, file string) {
	t.Helper()
	stem, c, ok := Split(file)
	wantStem, wantC, wantOk := wantSplit(file)
	if stem != wantStem || c != wantC || ok != wantOk {
		t.Fatalf("%q: %q, %v, %v, not %q, %v, %v", file, stem, c, ok, wantStem, wantC, wantOk)
	}
	if ok && (Join(stem, c) != file || !Ok(c)) {
		t.Fatalf("%q: joined again %q, and Ok is %v", file, Join(stem, c), Ok(c))
	}
}

func TestExample(t *testing.T) {
	if stem, c, ok := Split("a+3-1.conf"); stem != "a" || c != has(3, 1) || !ok {
		t.Error(stem, c, ok)
	}
}

func TestSplit(t *testing.T) { // 16.1, 16.2
	none := api.Count{}
	for file, want := range map[string]struct {
		stem string
		c    api.Count
	}{
		"a.conf": {"a", none}, "a+0.conf": {"a", has(0, 0)}, "a+1.conf": {"a", has(1, 0)}, "a+9.conf": {"a", has(9, 0)}, "a+10.conf": {"a", has(10, 0)}, "a+99.conf": {"a", has(99, 0)}, "a+90-9.conf": {"a", has(90, 9)},
		"a+0-1.conf": {"a", has(0, 1)}, "a+0-10.conf": {"a", has(0, 10)}, "a+99-99.conf": {"a", has(99, 99)}, "a+20-20.conf": {"a", has(20, 20)}, "a+5-50.conf": {"a", has(5, 50)},
		// No counters.
		"a+.conf": {"a+", none}, "a+-.conf": {"a+-", none}, "a+-1.conf": {"a+-1", none}, "a+1-.conf": {"a+1-", none}, "a+1--1.conf": {"a+1--1", none}, "a+1-+1.conf": {"a+1-", has(1, 0)}, "a-1.conf": {"a-1", none}, "a1.conf": {"a1", none}, "a-1+.conf": {"a-1+", none},
		"a+00.conf": {"a+00", none}, "a+01.conf": {"a+01", none}, "a+001.conf": {"a+001", none}, "a+100.conf": {"a+100", none}, "a+000.conf": {"a+000", none}, "a+990.conf": {"a+990", none}, "a+00-1.conf": {"a+00-1", none}, "a+01-1.conf": {"a+01-1", none}, "a+100-1.conf": {"a+100-1", none},
		"a+1-0.conf": {"a+1-0", none}, "a+1-00.conf": {"a+1-00", none}, "a+1-01.conf": {"a+1-01", none}, "a+1-100.conf": {"a+1-100", none}, "a+0-0.conf": {"a+0-0", none}, "a+1-2-3.conf": {"a+1-2-3", none}, "a+1-2-.conf": {"a+1-2-", none}, "a+1-x.conf": {"a+1-x", none},
		"a+1x.conf": {"a+1x", none}, "a+x1.conf": {"a+x1", none}, "a+1-1x.conf": {"a+1-1x", none}, "a+ 1.conf": {"a+ 1", none}, "a+1 .conf": {"a+1 ", none}, "a+1.conf.conf": {"a+1.conf", none}, "a+1..conf": {"a+1.", none}, "a+1-1\n.conf": {"a+1-1\n", none}, "a+٣.conf": {"a+٣", none}, "a+1\xff.conf": {"a+1\xff", none},
		// Nothing ahead of the last sign.
		"+1.conf": {"+1", none}, "+1-1.conf": {"+1-1", none}, "+0.conf": {"+0", none}, "+.conf": {"+", none}, "1.conf": {"1", none}, "-1.conf": {"-1", none},
		// Something ahead of it, whatever it is.
		"++1.conf": {"+", has(1, 0)}, "+1+1.conf": {"+1", has(1, 0)}, "-+1.conf": {"-", has(1, 0)}, ".+1.conf": {".", has(1, 0)}, " +1.conf": {" ", has(1, 0)}, "\n+1.conf": {"\n", has(1, 0)}, "\xff+1-2.conf": {"\xff", has(1, 2)}, "/+1.conf": {"/", has(1, 0)}, ".conf+1.conf": {".conf", has(1, 0)},
		"a+1+2.conf": {"a+1", has(2, 0)}, "a+1+2-3.conf": {"a+1", has(2, 3)}, "a+1-2+3.conf": {"a+1-2", has(3, 0)}, "a+2+.conf": {"a+2+", none}, "a++2.conf": {"a+", has(2, 0)}, "a+1+x.conf": {"a+1+x", none}, "a+1+02.conf": {"a+1+02", none}, "a.conf.conf": {"a.conf", none}, ".conf.conf": {".conf", none}, "..conf": {".", none},
	} {
		held(t, file)
		if stem, c, ok := Split(file); stem != want.stem || c != want.c || !ok {
			t.Errorf("%q: %q, %v, %v", file, stem, c, ok)
		}
	}
}

func TestSplitOfNone(t *testing.T) { // 16.1; DOC.md, rule 4
	for _, file := range []string{"", ".", "conf", ".conf", "a", "a.", "aconf", "a.con", "a.confs", "a.conf ", " .conf\n", "a.Conf", "a.CONF", "a.conf/", "a.conf\x00", "a+1", "a+1-1", "a+3.conf+1", "a.conf.", "a.cönf", "tmp"} {
		held(t, file)
		if stem, c, ok := Split(file); stem != "" || c != (api.Count{}) || ok {
			t.Errorf("%q: %q, %v, %v", file, stem, c, ok)
		}
	}
}

func TestSplitEachByte(t *testing.T) { // 16.1: each byte in each place, instead of another one or beside it
	for _, file := range []string{"a+3-1.conf", "a+12-34.conf", "a+5.conf", "a+10.conf", "+7.conf", "a.conf"} {
		for at := range len(file) {
			held(t, file[:at]+file[at+1:])
			held(t, file[:at])
			for i := range 256 {
				c := string([]byte{byte(i)})
				held(t, file[:at]+c+file[at+1:])
				held(t, file[:at]+c+file[at:])
				held(t, file+c)
			}
		}
	}
}

func TestSplitEachShort(t *testing.T) { // 16.1: each text of up to six of the signs that counters are made of
	const signs = "+-019a"
	l := []string{""}
	for range 6 {
		var longer []string
		for _, s := range l {
			held(t, s+".conf")
			held(t, "b+"+s+".conf")
			for i := range len(signs) {
				longer = append(longer, s+signs[i:i+1])
			}
		}
		l = longer
	}
	for _, s := range l {
		held(t, s+".conf")
	}
}

func TestEachCount(t *testing.T) { // 16.1, 16.2, W8: each count that is Ok, behind stems of all kinds
	for _, stem := range []string{"a", "linux-6.1~rc2", "a+", "+", "-", "+1-", "a+b", "a+x1", "+2", "a+2-0", "a.conf", ".", "~", " ", "\xff", "ä", "0", "12"} {
		if s, c, ok := Split(Join(stem, Good())); s != stem || c != Good() || !ok {
			t.Errorf("%q: %q, %v, %v", stem, s, c, ok)
		}
		for left := range 100 {
			for done := range 100 {
				c := has(left, done)
				file := Join(stem, c)
				if file != wantJoin(stem, c) || !Ok(c) {
					t.Fatalf("%q, %v: %q", stem, c, file)
				}
				if s, k, ok := Split(file); s != stem || k != c || !ok {
					t.Fatalf("%q: %q, %v, %v", file, s, k, ok)
				}
			}
		}
	}
}

func TestJoin(t *testing.T) { // 16.1
	for _, x := range []struct {
		stem string
		c    api.Count
		file string
	}{
		{"a", api.Count{}, "a.conf"}, {"", api.Count{}, ".conf"}, {"", has(1, 0), "+1.conf"}, {"a", has(3, 1), "a+3-1.conf"}, {"a", has(0, 0), "a+0.conf"}, {"a", has(0, 12), "a+0-12.conf"}, {"a+1", has(2, 3), "a+1+2-3.conf"}, {"a+1", api.Count{}, "a+1.conf"}, {"a.conf", api.Count{}, "a.conf.conf"}, {"/\n\xff", has(1, 1), "/\n\xff+1-1.conf"},
		// Counts that no name tells.
		{"a", api.Count{Left: 5, Done: 6}, "a.conf"}, {"a", api.Count{Left: -1}, "a.conf"}, {"a", has(100, 7), "a+100-7.conf"}, {"a", has(7, 100), "a+7-100.conf"}, {"a", has(-2, -3), "a+-2--3.conf"}, {"a", has(-1, 0), "a+-1.conf"},
		{"a", has(math.MaxInt64, math.MinInt64), "a+9223372036854775807--9223372036854775808.conf"},
	} {
		if file := Join(x.stem, x.c); file != x.file || wantJoin(x.stem, x.c) != x.file {
			t.Errorf("%q, %v: %q, not %q", x.stem, x.c, file, x.file)
		}
	}
}

// shares says whether two texts lie in the same memory, even by one byte.
func shares(a, b string) bool {
	if a == "" || b == "" {
		return false
	}
	at, of := uintptr(unsafe.Pointer(unsafe.StringData(a))), uintptr(unsafe.Pointer(unsafe.StringData(b)))
	return at < of+uintptr(len(b)) && of < at+uintptr(len(a))
}

func TestNewMemory(t *testing.T) { // DOC.md, rule 3
	for _, s := range []string{"a+3-1.conf", "a.conf", "+1.conf", "stem+x.conf"} {
		file := strings.Clone(s)
		stem, _, _ := Split(file)
		if shares(stem, file) {
			t.Errorf("%q is a piece of what was handed in", stem)
		}
		if shares(Join(stem, api.Count{}), stem) || shares(Join(stem, has(1, 1)), stem) {
			t.Errorf("the name of %q has what was handed in", stem)
		}
	}
}
