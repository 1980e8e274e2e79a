package version

import (
	"fmt"
	"math/big"
	"math/rand"
	"regexp"
	"slices"
	"sort"
	"strings"
	"testing"
	"unsafe"

	"credenza/api"
)

// A second telling of versions, by another way than the package's own: tokens are found by a pattern, and numbers are
// read as numbers.
var aToken = regexp.MustCompile(`[0-9]+|[a-zA-Z]+|~`)

func wantTokens(s string) []api.Token {
	var l []api.Token
	for _, x := range aToken.FindAllString(s, -1) {
		switch {
		case x == "~":
			l = append(l, api.Token{Kind: api.VTilde, Text: x})
		case x[0] <= '9':
			n, _ := new(big.Int).SetString(x, 10)
			l = append(l, api.Token{Kind: api.VNumber, Text: strings.TrimPrefix(n.String(), "0")})
		default:
			l = append(l, api.Token{Kind: api.VWord, Text: x})
		}
	}
	return l
}

// show tells tokens by signs that can be seen.
func show(l []api.Token) string {
	return fmt.Sprintf("%q", fmt.Sprint(l))
}

// value is the number that a token tells.
func value(t api.Token) *big.Int {
	n, _ := new(big.Int).SetString("0"+t.Text, 10)
	return n
}

// wantCompare holds both lists of tokens against each other, with an end laid behind each.
func wantCompare(a, b string) int {
	end := api.Token{Kind: api.VEnd}
	l, k := append(wantTokens(a), end), append(wantTokens(b), end)
	for i := range min(len(l), len(k)) {
		x, y := l[i], k[i]
		n := x.Kind - y.Kind
		if n == 0 && x.Kind == api.VNumber {
			n = value(x).Cmp(value(y))
		} else if n == 0 {
			n = strings.Compare(x.Text, y.Text)
		}
		if n != 0 {
			return max(-1, min(n, 1))
		}
	}
	return 0
}

// rising are classes of versions: those of one are the same, and less than those of each later one.
func rising() [][]string {
	long := strings.Repeat("9", 300)
	return [][]string{
		{"~~", "~-~", "..~~.."}, {"~~1"}, {"~"}, {"~A"}, {"~a"}, {"~0", "~00"}, {"~1"},
		{"", ".", "-._+", "ä", "\x00", "\xff\xfe", strings.Repeat(".", 1000)},
		{"A~"}, {"A", "A.", ".A"}, {"A.A"}, {"A0"}, {"AA"}, {"Z"}, {"a~"}, {"a", "a+", "-a"}, {"a.b"}, {"a1", "a-1", "a01"}, {"ab"}, {"abc"}, {"abd"}, {"b"}, {"rc"}, {"z"},
		{"0~"}, {"0", "00", "000", ".0", strings.Repeat("0", 1000)}, {"0a"}, {"0.0", "0-00"}, {"0.1"},
		{"1~~"}, {"1~"}, {"1~a"}, {"1~rc", "1~.rc", "01~rc"}, {"1~rc1"}, {"1~1"}, {"1", "01", "1.", "-1"}, {"1.a", "1a"}, {"1.a.1"}, {"1.0~"}, {"1.0", "1.00", "1-0", "1..0"}, {"1.0.0"}, {"1.1", "1.01"},
		{"1.2", "1-2", "1..2", "1 2", "1\n2", "1ä2", "1\xff2", "1/2", "1:2", "1@2", "1[2", "1`2", "1{2", "1}2", "1\x7f2"}, {"1.9"}, {"1.10"}, {"1.10.a"}, {"1.10.1"},
		{"2"}, {"9"}, {"10", "0010"}, {"11"}, {"12"}, {"20"}, {"99"}, {"100"}, {"9223372036854775807"}, {"9223372036854775808"}, {"18446744073709551615"}, {"18446744073709551616"}, {"18446744073709551617"},
		{long, "0" + long, long + "."}, {"1" + strings.Repeat("0", 300)},
	}
}

func TestTokens(t *testing.T) { // 15.1
	for s, want := range map[string][]api.Token{
		"": nil, "-._+": nil, "ä": nil, "\xff\x00": nil,
		"1.10":       {{Kind: 3, Text: "1"}, {Kind: 3, Text: "10"}},
		"0":          {{Kind: 3}},
		"000":        {{Kind: 3}},
		"0.00":       {{Kind: 3}, {Kind: 3}},
		"0100":       {{Kind: 3, Text: "100"}},
		"1 2":        {{Kind: 3, Text: "1"}, {Kind: 3, Text: "2"}},
		"aZ":         {{Kind: 2, Text: "aZ"}},
		"a-Z":        {{Kind: 2, Text: "a"}, {Kind: 2, Text: "Z"}},
		"~":          {{Text: "~"}},
		"~~":         {{Text: "~"}, {Text: "~"}},
		"~.~":        {{Text: "~"}, {Text: "~"}},
		"ä1":         {{Kind: 3, Text: "1"}},
		"x0y":        {{Kind: 2, Text: "x"}, {Kind: 3}, {Kind: 2, Text: "y"}},
		"007a~B..x0": {{Kind: 3, Text: "7"}, {Kind: 2, Text: "a"}, {Text: "~"}, {Kind: 2, Text: "B"}, {Kind: 2, Text: "x"}, {Kind: 3}},
		"6.1-rc3+2":  {{Kind: 3, Text: "6"}, {Kind: 3, Text: "1"}, {Kind: 2, Text: "rc"}, {Kind: 3, Text: "3"}, {Kind: 3, Text: "2"}},
	} {
		if l := Tokens(s); !slices.Equal(l, want) || !slices.Equal(wantTokens(s), want) {
			t.Errorf("%q: %s, and by the second telling %s", s, show(l), show(wantTokens(s)))
		}
	}
}

func TestTokensEachByte(t *testing.T) { // 15.1: every byte beside each class of bytes
	for i := range 256 {
		c := string([]byte{byte(i)})
		for _, form := range []string{"?", "??", "?1", "1?", "1?2", "?a", "a?", "a?Z", "~?", "?~", ".?", "?.", "0?0", "?0?1"} {
			s := strings.ReplaceAll(form, "?", c)
			if l := Tokens(s); !slices.Equal(l, wantTokens(s)) {
				t.Errorf("%q: %s, not %s", s, show(l), show(wantTokens(s)))
			}
		}
	}
}

func TestTokensEachTwoBytes(t *testing.T) { // 15.1
	for i := range 1 << 16 {
		s := string([]byte{byte(i >> 8), byte(i)})
		if l := Tokens(s); !slices.Equal(l, wantTokens(s)) {
			t.Fatalf("%q: %s, not %s", s, show(l), show(wantTokens(s)))
		}
	}
}

func TestCompareExamples(t *testing.T) {
	if Compare("1.10", "1.9") != 1 || Compare("1~rc", "1") != -1 {
		t.Error(Compare("1.10", "1.9"), Compare("1~rc", "1"))
	}
}

func TestCompare(t *testing.T) { // 15.1, 15.2, W7: each two, from both sides
	l := rising()
	for i, some := range l {
		for j, others := range l {
			want := max(-1, min(i-j, 1))
			for _, a := range some {
				for _, b := range others {
					if n := Compare(a, b); n != want || wantCompare(a, b) != want {
						t.Errorf("%.20q, %.20q: %d, not %d; by the second telling %d", a, b, n, want, wantCompare(a, b))
					}
				}
			}
		}
	}
}

func TestCompareKinds(t *testing.T) { // 15.1: the lesser Kind is less, ahead of any Text
	l := []string{"~", "", "zzz", "0"}
	for i, a := range l {
		for j, b := range l {
			for _, ahead := range []string{"", "1", "a.", "~", "1.2-"} {
				if n := Compare(ahead+a, ahead+b); n != max(-1, min(i-j, 1)) {
					t.Errorf("%q, %q: %d", ahead+a, ahead+b, n)
				}
			}
		}
	}
}

func TestCompareWordsByBytes(t *testing.T) { // 15.1: each letter against each
	const letters = "ABCDEFGHIJKLMNOPQRSTUVWXYZabcdefghijklmnopqrstuvwxyz"
	for i := range letters {
		for j := range letters {
			a, b := letters[i:i+1], letters[j:j+1]
			want := max(-1, min(i-j, 1))
			if Compare(a, b) != want || Compare("1.k"+a, "1.k"+b) != want || want != 0 && Compare(a+"z9", b) != want {
				t.Errorf("%q, %q: %d", a, b, Compare(a, b))
			}
		}
	}
}

func TestCompareNumbers(t *testing.T) { // 15.1: by what they are worth, whatever noughts stand ahead
	for i := range 250 {
		for j := range 250 {
			a, b := big.NewInt(int64(i)).String(), big.NewInt(int64(j)).String()
			want := max(-1, min(i-j, 1))
			if Compare(a, b) != want || Compare("000"+a, b) != want || Compare("v"+a+"x", "v00"+b+"x") != want {
				t.Errorf("%q, %q: %d", a, b, Compare(a, b))
			}
		}
	}
}

func TestSort(t *testing.T) { // 15.1
	for _, x := range [][2][]string{
		{nil, nil}, {{}, nil}, {{""}, {""}}, {{"2", "1"}, {"1", "2"}}, {{"1", "2"}, {"1", "2"}},
		{{"1.10", "1.9", "1~rc", "1"}, {"1~rc", "1", "1.9", "1.10"}},
		{{"2", "1.0", "1~x", "1.00", "10", "1"}, {"1~x", "1", "1.0", "1.00", "2", "10"}},
		{{"1.00", "1.0", "1-0", "1..0"}, {"1.00", "1.0", "1-0", "1..0"}},
		{{"1..0", "1-0", "1.0", "1.00"}, {"1..0", "1-0", "1.0", "1.00"}},
		{{"a", "a", "a"}, {"a", "a", "a"}},
	} {
		if l := Sort(x[0]); !slices.Equal(l, x[1]) {
			t.Errorf("%q: %q", x[0], l)
		}
	}
}

func TestSortRising(t *testing.T) { // 15.1, 15.2, W7: from any order
	var want []string
	for _, some := range rising() {
		want = append(want, some[0])
	}
	r := rand.New(rand.NewSource(15))
	for range 300 {
		l := slices.Clone(want)
		r.Shuffle(len(l), func(i, j int) { l[i], l[j] = l[j], l[i] })
		if got := Sort(l); !slices.Equal(got, want) {
			t.Fatalf("%.20q", got)
		}
		if at := Newest(l); l[at] != want[len(want)-1] {
			t.Fatalf("%.20q", l[at])
		}
	}
}

func TestSortKeepsOrder(t *testing.T) { // 15.1: what is the same as it came, of more than a few
	all := slices.Concat(rising()...)
	r := rand.New(rand.NewSource(16))
	for n := range 200 {
		l := make([]string, 3*n)
		for i := range l {
			l[i] = all[r.Intn(len(all))]
		}
		want := slices.Clone(l)
		sort.SliceStable(want, func(i, j int) bool { return wantCompare(want[i], want[j]) < 0 })
		if got := Sort(l); !slices.Equal(got, want) {
			t.Fatalf("%d texts", len(l))
		}
		if got := Sort(want); !slices.Equal(got, want) {
			t.Fatalf("%d texts, sorted again", len(l))
		}
	}
}

func TestNewest(t *testing.T) { // 15.1
	for _, x := range []struct {
		l  []string
		at int
	}{
		{nil, -1}, {[]string{}, -1}, {[]string{""}, 0}, {[]string{"~"}, 0}, {[]string{"~", ""}, 1}, {[]string{"", "~"}, 0}, {[]string{"", ""}, 0}, {[]string{"a", "0"}, 1},
		{[]string{"1", "2"}, 1}, {[]string{"2", "1"}, 0}, {[]string{"1", "1"}, 0}, {[]string{"1.0", "1.00", "1"}, 0}, {[]string{"1", "1.00", "1.0", "1-0"}, 1}, {[]string{"2", "1.0", "1~x", "1.00", "10", "1"}, 4},
		{[]string{"1", "2~", "2", "2~rc", "02", "1"}, 2}, {make([]string, 100), 0}, {append(make([]string, 100), "a"), 100},
	} {
		if at := Newest(x.l); at != x.at {
			t.Errorf("%q: %d, not %d", x.l, at, x.at)
		}
	}
}

// shares says whether two texts lie in the same memory, even by one byte.
func shares(a, b string) bool {
	if a == "" || b == "" {
		return false
	}
	at, of := uintptr(unsafe.Pointer(unsafe.StringData(a))), uintptr(unsafe.Pointer(unsafe.StringData(b)))
	return at < of+uintptr(len(b)) && of < at+uintptr(len(a))
}

func TestNewMemory(t *testing.T) { // DOC.md, rule 3
	s := strings.Clone("12.ab~34")
	l := Tokens(s)
	for _, x := range l {
		if shares(x.Text, s) {
			t.Errorf("%q is a piece of what was handed in", x.Text)
		}
	}
	clear(l[:cap(l)])
	if !slices.Equal(Tokens(s), wantTokens(s)) {
		t.Error(show(Tokens(s)))
	}
	room := []string{"22", "11", "spare", "a spare"}
	k := Sort(room[:2])
	for _, x := range k {
		if shares(x, room[0]) || shares(x, room[1]) {
			t.Errorf("%q is what was handed in", x)
		}
	}
	k = k[:cap(k)]
	for i := range k {
		k[i] = "gone"
	}
	if Newest(room[:2]) != 0 || !slices.Equal(room, []string{"22", "11", "spare", "a spare"}) {
		t.Errorf("%q", room)
	}
}
