package conf

import (
	"fmt"
	"math/rand"
	"regexp"
	"strings"
	"testing"

	"credenza/api"
	"credenza/fault"
)

// Some lines that are well.
const (
	v = "version 1\n"
	k = "kernel k " + one + "\n"
	x = "extra x " + two + "\n"
	o = "options a b\n"
)

// reads looks whether s is read as want, and so is what is printed of it.
func reads(t testing.TB, s string, want api.Entry) {
	t.Helper()
	e, err := Parse(s)
	if err != nil || show(e) != show(want) {
		t.Errorf("%q is read as %s, not %s: %s", s, show(e), show(want), fault.Text(err))
		return
	}
	fine(t, e)
}

// refuses looks whether s is refused for that line, and nothing is answered beside that.
func refuses(t testing.TB, s string, line int) {
	t.Helper()
	e, err := Parse(s)
	if e.Extra != nil || show(e) != show(api.Entry{}) {
		t.Errorf("%q is read as %s", s, show(e))
	}
	tells(t, err, fmt.Sprint(line), api.ErrEntry)
	if t.Failed() {
		t.Fatalf("%q", s)
	}
}

func TestParse(t *testing.T) { // 14.2
	e := small()
	reads(t, v+k, e)
	e.Extra = []api.Blob{{Name: "x", Sum: two}, {Name: "y", Sum: one}, {Name: "x", Sum: two}}
	e.Options = "a b"
	reads(t, v+k+x+"extra y "+one+"\n"+x+o, e)
}

func TestParseAnyOrder(t *testing.T) { // 14.2: whatever stands first
	e := small()
	e.Extra, e.Options = []api.Blob{{Name: "x", Sum: two}}, "a b"
	l := []string{v, k, x, o}
	for i := range 4 {
		for j := range 4 {
			for n := range 4 {
				if i != j && j != n && i != n {
					reads(t, l[i]+l[j]+l[n]+l[6-i-j-n], e)
				}
			}
		}
	}
}

func TestParseLastLine(t *testing.T) { // 14.2: the last line needs no line feed
	for _, s := range []string{v + k, k + v, v + k + "#", v + k + "\n", v + k + "\n\n"} {
		reads(t, s, small())
		reads(t, strings.TrimSuffix(s, "\n"), small())
	}
	refuses(t, v+k+"extra x", 3)
	refuses(t, v+k+"extra x\n", 3)
	refuses(t, v+k+" ", 3)
}

func TestParseNothing(t *testing.T) { // 14.2: a line that is empty or begins with # says nothing, but it counts
	reads(t, "\n\n#\n"+k+"#version 2\n# any \x00\xff\r\n\n"+v+"##", small())
	refuses(t, "\n#\n"+v+v, 4)
	refuses(t, "\n\n"+k+"#\n\nkernel\n", 6)
	refuses(t, " #\n"+v+k, 1)
	refuses(t, v+" \n"+k, 2)
	refuses(t, v+"\t\n"+k, 2)
	refuses(t, v+k+"\r\n", 3)
	refuses(t, v+k+"\x00", 3)
}

func TestParseWanting(t *testing.T) { // 14.2, the example
	for _, s := range []string{"", "\n", "#", "version 1", v, k, x + o, v + x + o, k + x + o, "#" + v + k, v + "#" + k} {
		refuses(t, s, 0)
	}
	if _, err := Parse("version 1"); err.Error() != "conf 0: error 30" || fault.Text(err) != "conf 0: error 30" {
		t.Error(err)
	}
}

func TestParseNoneOfThese(t *testing.T) { // 14.2: what is no line, ahead of what is wanting
	for _, s := range []string{"a", "Version 1", "VERSION 1", "versions 1", "versio 1", "version\t1", " version 1", "version=1", "kernels k " + one, "kerne k " + one, "extras x " + one, "Extra x " + one, "option a", "Options a", "optionsa", "1", one, "initrd x " + one, "version 1\r", "\xef\xbb\xbfversion 1", "k", "\xff"} {
		refuses(t, s, 1)
		refuses(t, s+"\n"+v+k, 1)
		refuses(t, v+s+"\n"+k, 2)
		refuses(t, v+k+s, 3)
	}
}

func TestParseParts(t *testing.T) { // 14.1, 14.2: parts that are not Ok; words are parted by one blank
	for _, s := range []string{"version", "version ", "version  ", "version  1", "version 1 ", "version 1 2", "version 1\t", "version \x7f", "version \x1f", "version \x80", "version " + strings.Repeat("1", 41)} {
		refuses(t, k+s, 2)
		refuses(t, k+s+"\n"+o, 2)
	}
	for _, s := range []string{"", " ", "  ", " k", " k ", " k  ", " k  " + one, "  k " + one, " k " + one + " ", " k " + one + " a", " k k " + one, "  " + one, " " + one, " " + one + " k", " k " + one[1:], " k " + one + "0", " k " + strings.ToUpper(one), " . " + one, " .. " + one, " a/b " + one, " k\t" + one, " k " + one + "\r", " " + strings.Repeat("k", 28) + " " + one} {
		refuses(t, v+"kernel"+s, 2)
		refuses(t, v+"kernel"+s+"\n"+k, 2)
		refuses(t, v+k+"extra"+s+"\n"+x, 3)
	}
	for _, s := range []string{"options", "options ", "options  ", "options  a", "options a ", "options a\t", "options \x7f", "options a\x80", "options a\r", "options " + strings.Repeat("o", 201)} {
		refuses(t, v+k+s, 3)
		refuses(t, v+s+"\n"+k, 2)
	}
}

func TestParseText(t *testing.T) { // 14.2: TEXT is all behind the word and its blank
	for _, s := range []string{"a", "#", "#a", "a  b", "options a", "version 2", "~", "a   #  b", strings.Repeat("o", 200)} {
		e := small()
		e.Options = s
		reads(t, v+"options "+s+"\n"+k, e)
	}
	e := small()
	e.Version = "#"
	reads(t, "version #\n"+k, e)
}

func TestParseTwice(t *testing.T) { // 14.2: a second time, whether it says the same or not
	for _, s := range []string{v, k, o} {
		refuses(t, v+k+o+s, 4)
		refuses(t, s+s+v+k, 2)
		refuses(t, s+"#\n"+x+s+v+k, 4)
	}
	refuses(t, v+"version 2\n"+k, 2)
	refuses(t, v+k+"kernel j "+two, 3)
	refuses(t, v+k+o+"options b", 4)
	refuses(t, v+k+o+"options", 4)
}

func TestParseExtras(t *testing.T) { // 14.2: eight, and no ninth
	e := small()
	for n := range 8 {
		reads(t, strings.Repeat(x, n)+v+k, e)
		e.Extra = append(e.Extra, api.Blob{Name: "x", Sum: two})
	}
	reads(t, v+k+strings.Repeat(x, 8), e)
	reads(t, v+strings.Repeat("\n"+x, 8)+k, e)
	refuses(t, v+k+strings.Repeat(x, 9), 11)
	refuses(t, strings.Repeat(x, 12), 9)
	refuses(t, strings.Repeat(x, 8)+"\nextra y "+one+"\n"+v+k, 10)
}

func TestParseFirst(t *testing.T) { // 14.2: of several the first
	refuses(t, "a\nb\n", 1)
	refuses(t, v+v+"version\nkernel", 2)
	refuses(t, v+"kernel\n"+v, 2)
	refuses(t, "options\nversion\nkernel\nextra", 1)
}

func TestParseLong(t *testing.T) { // 14.2: 2,000 bytes, and one more; that is told ahead of what they say
	reads(t, v+k+strings.Repeat("\n", 2000-len(v+k)), small())
	reads(t, v+k+"#"+strings.Repeat("x", 2000-len(v+k)-1), small())
	refuses(t, strings.Repeat("\n", 2000), 0)
	refuses(t, strings.Repeat("\n", 1999)+"a", 2000)
	refuses(t, strings.Repeat("a", 2000), 1)
	for _, s := range []string{v + k + strings.Repeat("\n", 2001-len(v+k)), strings.Repeat("a", 2001), strings.Repeat("\n", 2001), strings.Repeat(x, 100), strings.Repeat("a", 1<<20)} {
		e, err := Parse(s)
		if show(e) != show(api.Entry{}) {
			t.Error(show(e))
		}
		tells(t, err, "", api.ErrLong)
	}
}

// The lines as patterns: a second telling of what they may be.
var (
	silent = regexp.MustCompile(`^(#|$)`)
	first  = regexp.MustCompile(`^version ([!-~]{1,40})$`)
	second = regexp.MustCompile(`^(kernel|extra) ([A-Za-z0-9.+_~-]{1,27}) ([0-9a-f]{16})$`)
	third  = regexp.MustCompile(`^options ([!-~]|[!-~][ -~]{0,198}[!-~])$`)
)

// model reads s a second time; the line that is wrong, or -1.
func model(s string) (e api.Entry, at int) {
	n := map[string]int{}
	for i, line := range strings.Split(s, "\n") {
		m := second.FindStringSubmatch(line)
		switch {
		case silent.MatchString(line):
			continue
		case first.MatchString(line):
			e.Version = first.FindStringSubmatch(line)[1]
		case third.MatchString(line):
			e.Options = third.FindStringSubmatch(line)[1]
		case m == nil, m[2] == ".", m[2] == "..":
			return api.Entry{}, i + 1
		case m[1] == "kernel":
			e.Kernel = api.Blob{Name: m[2], Sum: m[3]}
		default:
			e.Extra = append(e.Extra, api.Blob{Name: m[2], Sum: m[3]})
		}
		word := strings.Fields(line)[0]
		n[word]++
		if n[word] == 9 || n[word] == 2 && word != "extra" {
			return api.Entry{}, i + 1
		}
	}
	if n["version"] == 0 || n["kernel"] == 0 {
		return api.Entry{}, 0
	}
	return e, -1
}

// held looks whether s is read as the model has it; whether it was read at all is answered.
func held(t testing.TB, s string) bool {
	t.Helper()
	e, at := model(s)
	if at >= 0 {
		refuses(t, s, at)
		return false
	}
	reads(t, s, e)
	if t.Failed() {
		t.FailNow()
	}
	return true
}

func TestParseModel(t *testing.T) { // 14.2, 14.3, W8, W9: lines from a stock, thrown together
	r := rand.New(rand.NewSource(14))
	stock := []string{v, v, v, k, k, k, x, x, x, x, o, o, "", "\n", "#\n", "options a  #\n", "extra ... " + one + "\n", "version ~1+2\n", "kernel k\n", "extra .. " + one + "\n", " \n", "options \n"}
	well := 0
	for range 20000 {
		var s string
		for range 1 + r.Intn(6) {
			s += stock[r.Intn(len(stock))]
		}
		if held(t, s) {
			well++
		}
	}
	if well < 500 || well > 19500 {
		t.Error(well)
	}
}

func TestParseChanged(t *testing.T) { // 14.2, 14.3, 14.4, W9: each byte of a text put otherwise, dropped, doubled
	s := "#\n" + v + x + k + o
	for i := range len(s) {
		for c := range 256 {
			held(t, s[:i]+string([]byte{byte(c)})+s[i+1:])
			held(t, s[:i]+string([]byte{byte(c)})+s[i:])
		}
		held(t, s[:i])
		held(t, s[i:])
		held(t, s[:i]+s[i+1:])
	}
}

func TestParseAnyBytes(t *testing.T) { // 14.4, W9, W10
	r := rand.New(rand.NewSource(4))
	signs := "versionkernelextraoptions# \n\n\n1a\x00\xff"
	for range 20000 {
		b := make([]byte, r.Intn(40))
		r.Read(b)
		held(t, string(b))
		for i := range b {
			b[i] = signs[int(b[i])%len(signs)]
		}
		held(t, string(b))
	}
}

func TestThereAndBack(t *testing.T) { // 14.3, W8: entries thrown together
	r := rand.New(rand.NewSource(3))
	text := func(signs string, least, most int) string {
		b := make([]byte, least+r.Intn(most-least+1))
		for i := range b {
			b[i] = signs[r.Intn(len(signs))]
		}
		return string(b)
	}
	blob := func() api.Blob {
		return api.Blob{Name: "n" + text("aZ0.+-_~", 0, 26), Sum: text("0123456789abcdef", 16, 16)}
	}
	for range 5000 {
		e := api.Entry{Version: text("1.~#!a", 1, 40), Kernel: blob(), Options: strings.Trim(text("a #=~", 0, 200), " ")}
		for range r.Intn(9) {
			e.Extra = append(e.Extra, blob())
		}
		fine(t, e)
	}
}

func TestParseApart(t *testing.T) { // rule 3: no two answers share a list
	s := v + k + x + x
	a, err := Parse(s)
	done(t, err)
	b, err := Parse(s)
	done(t, err)
	l := a.Extra[:cap(a.Extra)]
	for i := range l {
		l[i] = api.Blob{Name: "gone"}
	}
	if b.Extra[0].Name != "x" || b.Extra[1].Name != "x" || b.Kernel.Name != "k" {
		t.Error(b)
	}
}
