package name

import (
	"bytes"
	"math/rand"
	"regexp"
	"slices"
	"strings"
	"testing"
	"unsafe"
)

// long is a name of as many bytes as one may have.
const long = "abcdefghijklmnopqrstuvwxyz0"

// A second telling of names and paths, by another way than the package's own.
var (
	aName = regexp.MustCompile(`\A[a-zA-Z0-9.+\-_~]{1,27}\z`)
	aPath = regexp.MustCompile(`\A(/|(/[a-zA-Z0-9.+\-_~]{1,27}){1,6})\z`)
)

func wantOk(s string) bool {
	return aName.MatchString(s) && s != "." && s != ".."
}

func wantSplit(path string) ([]string, bool) {
	if !aPath.MatchString(path) {
		return nil, false
	}
	l := strings.FieldsFunc(path, func(r rune) bool { return r == '/' })
	if slices.Contains(l, ".") || slices.Contains(l, "..") {
		return nil, false
	}
	return l, true
}

// paths are some of each number of names.
func paths() []string {
	return []string{
		"/", "/a", "/" + long, "/...", "/.a", "/a.", "/~", "/-", "/+", "/_", "/0", "/A", "/ab", "/a/b", "/a/b.conf", "/a/bc", "/a/a", "/b/a", "/a/b/c", "/a/b/c/d", "/a/b/c/d/e",
		"/a/b/c/d/e/f", "/a/b/c/d/e/g", strings.Repeat("/"+long, 6), strings.Repeat("/"+long, 5) + "/a",
	}
}

// others are no paths.
func others() []string {
	return []string{
		"", " ", "a", "a/", "a/b", ".", "..", "//", "///", "//a", "/a/", "/a//b", "/a/b/", " /a", "/a ", "/.", "/..", "/./a", "/../a", "/a/.", "/a/..", "/a/./b", "/a/../b", "/a b", "/a\x00", "/\x00",
		"\x00/a", "/a\n", "/ä", "/\xff", "/a\xff", "\\a", "/a\\b", "/a:b", "/a/b/c/d/e/f/", "/a/b/c/d/e/f/g", "/a/b/c/d/e/f//", "/" + long + "1", "/a/" + long + "1", strings.Repeat("/"+long, 7), strings.Repeat("/"+long, 6) + "/",
		strings.Repeat("/", 7), strings.Repeat("/a", 1000), "/" + strings.Repeat("a", 100000), strings.Repeat("a", 100000),
	}
}

func TestOkEachByte(t *testing.T) { // 9.1
	const signs = "abcdefghijklmnopqrstuvwxyzABCDEFGHIJKLMNOPQRSTUVWXYZ0123456789.+-_~"
	for i := range 256 {
		c := string([]byte{byte(i)})
		is := strings.Contains(signs, c)
		for _, s := range []string{"a" + c, c + "a", "a" + c + "a", c + c + c} {
			if Ok(s) != is {
				t.Errorf("%q: %t", s, !is)
			}
		}
		if Ok(c) != (is && c != ".") {
			t.Errorf("%q: %t", c, Ok(c))
		}
	}
}

func TestOkLength(t *testing.T) { // 9.1
	for n := range 300 {
		if s := strings.Repeat("n", n); Ok(s) != (n >= 1 && n <= 27) {
			t.Errorf("%d bytes: %t", n, Ok(s))
		}
	}
	if Ok(strings.Repeat("n", 1<<20)) {
		t.Error("a name of a million bytes")
	}
	for n := 1; n < 30; n++ {
		if s := strings.Repeat(".", n); Ok(s) != (n >= 3 && n <= 27) {
			t.Errorf("%d dots: %t", n, Ok(s))
		}
	}
}

func TestOkWrong(t *testing.T) { // 9.1
	for _, s := range []string{"", ".", "..", "a/b", "/", "/a", "a/", "a b", " a", "a ", "ä", "é", "a\x00", "\x00", "a\n", "\xff\xfe", "名", "a\u200b", long + "1", "*", "a*", "a\\b", "a:b", "%41"} {
		if Ok(s) {
			t.Errorf("%q is told to be a name", s)
		}
	}
}

func TestSplit(t *testing.T) { // 9.1
	for path, want := range map[string][]string{
		"/": {}, "/a": {"a"}, "/a/b.conf": {"a", "b.conf"}, "/.../..a": {"...", "..a"}, "/a/b/c/d/e/f": {"a", "b", "c", "d", "e", "f"}, "/" + long + "/a": {long, "a"},
	} {
		if l, ok := Split(path); !ok || !slices.Equal(l, want) {
			t.Errorf("%q: %q, %t", path, l, ok)
		}
	}
	for _, path := range paths() {
		if _, ok := Split(path); !ok {
			t.Errorf("%q is told to be no path", path)
		}
	}
}

func TestSplitWrong(t *testing.T) { // 9.1; DOC.md, rule 4
	for _, path := range others() {
		if l, ok := Split(path); ok || l != nil {
			t.Errorf("%.40q: %q, %t", path, l, ok)
		}
	}
}

func TestJoin(t *testing.T) { // 9.1; DOC.md, rule 1
	for want, l := range map[string][]string{
		"/": nil, "/a": {"a"}, "/a/b.conf": {"a", "b.conf"}, "/a/b/c/d/e/f": {"a", "b", "c", "d", "e", "f"}, "/a/a": {"a", "a"}, "/" + long: {long},
	} {
		if path, ok := Join(l); !ok || path != want {
			t.Errorf("%q: %q, %t", l, path, ok)
		}
	}
	if path, ok := Join([]string{}); !ok || path != "/" {
		t.Errorf("an empty list: %q, %t", path, ok)
	}
}

func TestJoinWrong(t *testing.T) { // 9.1; DOC.md, rule 4
	for _, l := range [][]string{
		{""}, {"."}, {".."}, {"/"}, {"/a"}, {"a/"}, {"a/b"}, {"a", ""}, {"", "a"}, {"a", "."}, {"..", "a"}, {"a", "b c"}, {"a", "\xff", "b"}, {long + "1"}, {"a", long + "1"},
		{"a", "b", "c", "d", "e", ""}, {"a", "b", "c", "d", "e", "f", "g"}, {"a", "b", "c", "d", "e", "f", ""}, make([]string, 6), make([]string, 7), make([]string, 100000),
	} {
		if path, ok := Join(l); ok || path != "" {
			t.Errorf("%d names: %q, %t", len(l), path, ok)
		}
	}
}

func TestThereAndBack(t *testing.T) { // 9.2, W8
	for _, path := range paths() {
		l, ok := Split(path)
		back, good := Join(l)
		if !ok || !good || back != path {
			t.Errorf("%q: %q", path, back)
		}
	}
	for _, l := range [][]string{nil, {"a"}, {"a", "a"}, {long, "..."}, {"1", "2", "3", "4", "5", "6"}} {
		path, ok := Join(l)
		back, good := Split(path)
		if !ok || !good || !slices.Equal(back, l) {
			t.Errorf("%q: %q", l, back)
		}
	}
}

func TestParent(t *testing.T) { // 9.1 and the chapter's example
	for path, want := range map[string][2]string{
		"/a": {"/", "a"}, "/a/b.conf": {"/a", "b.conf"}, "/a/b/c": {"/a/b", "c"}, "/a/a": {"/a", "a"}, "/a/b/c/d/e/f": {"/a/b/c/d/e", "f"}, "/" + long + "/" + long: {"/" + long, long}, "/...": {"/", "..."},
	} {
		if dir, base, ok := Parent(path); !ok || dir != want[0] || base != want[1] {
			t.Errorf("%q: %q, %q, %t", path, dir, base, ok)
		}
	}
}

func TestParentWrong(t *testing.T) { // 9.1; DOC.md, rule 4
	for _, path := range append(others(), "/") {
		if dir, base, ok := Parent(path); ok || dir != "" || base != "" {
			t.Errorf("%.40q: %q, %q, %t", path, dir, base, ok)
		}
	}
}

func TestLess(t *testing.T) { // 9.1
	l := []string{"", "\x00", "\x00\x00", "+", "-", ".", "..", "/", "/a", "/a/b", "0", "10", "9", "A", "Z", "_", "a", "a+", "a-", "a.", "a/b", "aa", "b", "~", "\x7f", "\x80", "é", "\xff", "\xff\x00", "\xff\xff", strings.Repeat("\xff", 1000)}
	for i, a := range l {
		for j, b := range l {
			if Less(a, b) != (i < j) || Less(a, b) != (bytes.Compare([]byte(a), []byte(b)) < 0) {
				t.Errorf("%.9q, %.9q: %t", a, b, Less(a, b))
			}
		}
	}
}

func TestWithin(t *testing.T) { // 9.1
	for _, x := range []struct {
		path, dir string
		is        bool
	}{
		{"/", "/", true}, {"/a", "/", true}, {"/a/b/c/d/e/f", "/", true}, {"/a", "/a", true}, {"/a/b", "/a", true}, {"/a/b/c", "/a/b", true}, {"/a/b/c/d/e/f", "/a/b/c/d/e/f", true},
		{"/", "/a", false}, {"/a", "/a/b", false}, {"/ab", "/a", false}, {"/a", "/ab", false}, {"/a.b", "/a", false}, {"/a/bc", "/a/b", false}, {"/ab/c", "/a/c", false}, {"/b/a", "/a", false},
		{"/a/b/c", "/b/c", false}, {"/A/b", "/a", false}, {"/a/b/c", "/a/c", false},
	} {
		if Within(x.path, x.dir) != x.is {
			t.Errorf("%q within %q: %t", x.path, x.dir, !x.is)
		}
	}
}

// TestWithinEach holds each two paths against each other as texts, with a / behind each.
func TestWithinEach(t *testing.T) { // 9.1
	behind := func(path string) string { return strings.TrimSuffix(path, "/") + "/" }
	for _, path := range paths() {
		for _, dir := range paths() {
			if is := strings.HasPrefix(behind(path), behind(dir)); Within(path, dir) != is {
				t.Errorf("%q within %q: %t", path, dir, !is)
			}
		}
	}
}

func TestWithinWrong(t *testing.T) { // 9.1
	for _, wrong := range others() {
		for _, path := range append(paths(), wrong) {
			if Within(path, wrong) || Within(wrong, path) {
				t.Errorf("%q and %.40q", path, wrong)
			}
		}
	}
}

// shares says whether two texts lie in the same memory, even by one byte.
func shares(a, b string) bool {
	if a == "" || b == "" {
		return false
	}
	at, of := uintptr(unsafe.Pointer(unsafe.StringData(a))), uintptr(unsafe.Pointer(unsafe.StringData(b)))
	return at < of+uintptr(len(b)) && of < at+uintptr(len(a))
}

func TestNewMemory(t *testing.T) { // DOC.md, rule 3
	path := strings.Clone("/ab/cd/ef")
	l, _ := Split(path)
	dir, base, _ := Parent(path)
	for _, s := range append(l, dir, base) {
		if shares(s, path) {
			t.Errorf("%q is a piece of what was handed in", s)
		}
	}
	one := []string{strings.Clone("ab")}
	if s, _ := Join(one); shares(s, one[0]) {
		t.Error("a path is the name that was handed in")
	}
	clear(l[:cap(l)])
	if again, ok := Split(path); !ok || !slices.Equal(again, []string{"ab", "cd", "ef"}) {
		t.Errorf("%q, %t", again, ok)
	}
	room := []string{"a", "b", "spare", "spare"}
	if s, ok := Join(room[:2]); !ok || s != "/a/b" || !slices.Equal(room, []string{"a", "b", "spare", "spare"}) {
		t.Errorf("%q, %t, %q", s, ok, room)
	}
}

// TestHostile asks for any bytes, of signs that make paths likely, and holds each answer against the second telling.
func TestHostile(t *testing.T) { // 9.1 to 9.3, W8, W9
	const likely = "////aabZ09.+-_~"
	r := rand.New(rand.NewSource(9))
	text := func() string {
		b := make([]byte, r.Intn(40))
		for i := range b {
			b[i] = likely[r.Intn(len(likely))]
			if r.Intn(200) == 0 {
				b[i] = byte(r.Intn(256))
			}
		}
		if r.Intn(2) == 0 {
			return "/" + string(b)
		}
		return string(b)
	}
	good := 0
	for range 200000 {
		s, other := text(), text()
		if Ok(s) != wantOk(s) {
			t.Fatalf("Ok %q: %t", s, Ok(s))
		}
		l, ok := Split(s)
		want, is := wantSplit(s)
		if ok != is || !slices.Equal(l, want) {
			t.Fatalf("Split %q: %q, %t", s, l, ok)
		}
		if back, joined := Join(l); ok && (!joined || back != s) {
			t.Fatalf("Join %q: %q", l, back)
		}
		dir, base, has := Parent(s)
		if has != (is && len(l) > 0) || has && (base != l[len(l)-1] || strings.TrimSuffix(dir, "/")+"/"+base != s || !Within(s, dir) || Within(dir, s)) {
			t.Fatalf("Parent %q: %q, %q, %t", s, dir, base, has)
		}
		if Within(s, s) != is || Within(s, "/") != is || Less(s, other) != (strings.Compare(s, other) < 0) {
			t.Fatalf("%q, %q", s, other)
		}
		if is {
			good++
		}
	}
	if good < 1000 {
		t.Error("few paths were met:", good)
	}
}

// TestJoinHostile joins lists of any names, and holds the path against the second telling.
func TestJoinHostile(t *testing.T) { // 9.1 to 9.3, W8, W9
	names := []string{"a", "b.conf", "...", long, "~", "A9", "x_y", "0", "+", "-", ".", "..", "", "a/b", long + "1", "\xff"}
	r := rand.New(rand.NewSource(10))
	for range 50000 {
		l := make([]string, r.Intn(9))
		is := len(l) <= 6
		some := len(names) - 6*r.Intn(2)
		for i := range l {
			l[i] = names[r.Intn(some)]
			is = is && wantOk(l[i])
		}
		path, ok := Join(l)
		if ok != is || !ok && path != "" {
			t.Fatalf("%q: %q, %t", l, path, ok)
		}
		if back, good := Split(path); ok && (!good || !slices.Equal(back, l)) {
			t.Fatalf("%q: %q, %t", path, back, good)
		}
	}
}
