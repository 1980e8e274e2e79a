package pick

import (
	"fmt"
	"math"
	"math/rand"
	"slices"
	"strings"
	"testing"
	"unsafe"

	"credenza/api"
)

// cand is a candidate as its name tells it.
func cand(t *testing.T, file, vers string) api.Cand {
	t.Helper()
	c, ok := Of(file, vers)
	if !ok {
		t.Fatalf("%q is none", file)
	}
	return c
}

// files are the names of some candidates, in their order.
func files(l []api.Cand) []string {
	var names []string
	for _, c := range l {
		names = append(names, c.File)
	}
	return names
}

// shuffled is l in any order.
func shuffled(r *rand.Rand, l []api.Cand) []api.Cand {
	l = slices.Clone(l)
	r.Shuffle(len(l), func(i, j int) { l[i], l[j] = l[j], l[i] })
	return l
}

// inOrder are classes of candidates, each class ahead of all later ones; within a class by File, whose bytes rise.
func inOrder(t *testing.T) [][]api.Cand {
	t.Helper()
	var l [][]api.Cand
	for _, rank := range [][]string{
		{"A.conf B.conf a.conf a.conf.conf b.conf é.conf", "A+1.conf a+10-3.conf a+2.conf a+99.conf z+1-98.conf é+1.conf"},
		{"A+0.conf a+0-1.conf a+0-99.conf a+0.conf b+0.conf é+0-5.conf"},
	} {
		for _, same := range [][]string{{"10", "010", "10."}, {"9"}, {"1.10"}, {"1.9"}, {"1.0", "1.00", "1-0"}, {"1"}, {"1~rc"}, {"a"}, {"", ".", "\xff"}, {"~"}} {
			for _, names := range rank {
				var some []api.Cand
				for i, file := range strings.Fields(names) {
					some = append(some, cand(t, file, same[i%len(same)]))
				}
				l = append(l, some)
			}
		}
	}
	return l
}

func TestExample(t *testing.T) {
	a, b := cand(t, "a.conf", "1"), cand(t, "b+3.conf", "2")
	if l := Order([]api.Cand{a, b}); l[0] != b || l[1] != a || !Less(b, a) || Less(a, b) {
		t.Error(l)
	}
}

func TestOf(t *testing.T) { // 17.1
	for _, want := range []api.Cand{
		{File: "a.conf", Stem: "a", Version: "1.2"},
		{File: "a.conf", Stem: "a"},
		{File: "a+3-1.conf", Stem: "a", Count: api.Count{Has: true, Left: 3, Done: 1}, Version: "1.2"},
		{File: "a+0.conf", Stem: "a", Count: api.Count{Has: true}, Version: "a\n\xff\x00 b"},
		{File: "a+0-99.conf", Stem: "a", Count: api.Count{Has: true, Done: 99}, Version: "~"},
		{File: "a+99.conf", Stem: "a", Count: api.Count{Has: true, Left: 99}, Version: "a+3.conf"},
		{File: "a+03.conf", Stem: "a+03", Version: "1"},
		{File: "+1.conf", Stem: "+1", Version: "1"},
		{File: "a+1+2.conf", Stem: "a+1", Count: api.Count{Has: true, Left: 2}, Version: "1"},
		{File: "/\xff\n+1-2.conf", Stem: "/\xff\n", Count: api.Count{Has: true, Left: 1, Done: 2}, Version: "1"},
		{File: strings.Repeat("a", 1000) + ".conf", Stem: strings.Repeat("a", 1000), Version: strings.Repeat("1.", 1000)},
	} {
		if c, ok := Of(want.File, want.Version); c != want || !ok {
			t.Errorf("%.20q: %v, %v", want.File, c, ok)
		}
	}
	for _, file := range []string{"", ".conf", "a", "a.con", "a.confs", "a.conf ", "a.CONF", "a+3", "a+3-1", "tmp", "conf"} {
		if c, ok := Of(file, "1.2"); c != (api.Cand{}) || ok {
			t.Errorf("%q: %v, %v", file, c, ok)
		}
	}
}

func TestRank(t *testing.T) { // 17.1
	for file, want := range map[string]int{
		"a.conf": 0, "a+1.conf": 0, "a+99.conf": 0, "a+1-1.conf": 0, "a+1-99.conf": 0, "a+03.conf": 0, "a+1-0.conf": 0, "+0.conf": 0,
		"a+0.conf": 1, "a+0-1.conf": 1, "a+0-99.conf": 1, "a+1+0.conf": 1,
	} {
		if c := cand(t, file, "1"); Rank(c) != want || Startable(c) != (want == 0) {
			t.Errorf("%q: %d, %v", file, Rank(c), Startable(c))
		}
	}
	// Counts that no name tells; a version, a stem and a name say nothing here.
	for _, left := range []int{math.MinInt, -1, 0, 1, 99, 100, math.MaxInt} {
		for _, done := range []int{math.MinInt, -1, 0, 1, 99, 100, math.MaxInt} {
			for _, has := range []bool{false, true} {
				c := api.Cand{File: "a+0.conf", Version: "1", Count: api.Count{Has: has, Left: left, Done: done}}
				want := !has || left > 0
				if Startable(c) != want || (Rank(c) == 0) != want || (Rank(c) == 1) == want {
					t.Errorf("%v: %d, %v", c.Count, Rank(c), Startable(c))
				}
			}
		}
	}
	if c := (api.Cand{}); Rank(c) != 0 || !Startable(c) {
		t.Error(Rank(c), Startable(c))
	}
}

func TestLess(t *testing.T) { // 17.1, 17.2, W7: each two, from both sides
	l := slices.Concat(inOrder(t)...)
	for i, a := range l {
		for j, b := range l {
			if Less(a, b) != (i < j) {
				t.Errorf("%v, %v: %v", a, b, Less(a, b))
			}
		}
	}
}

func TestLessOfOneFile(t *testing.T) { // 17.1: what weighs more than File tells also those of one File apart
	bad, trying := api.Count{Has: true, Left: 0, Done: 1}, api.Count{Has: true, Left: 1}
	l := []api.Cand{
		{File: "a", Version: "2"}, {File: "a", Version: "2", Count: trying}, {File: "a", Version: "1"}, {File: "a", Version: "1", Count: trying},
		{File: "a", Version: "3", Count: bad}, {File: "a", Version: "2", Count: bad}, {File: "a", Version: "1", Count: bad},
	}
	for i, a := range l {
		for j, b := range l {
			if Less(a, b) != (i < j) {
				t.Errorf("%v, %v: %v", a, b, Less(a, b))
			}
		}
	}
	for _, x := range [][2]api.Cand{
		{{}, {}}, {{Stem: "a"}, {Stem: "b"}}, {{Version: "1.0"}, {Version: "1.00"}}, {{Version: ""}, {Version: "."}},
		{{Count: trying}, {Count: api.Count{Has: true, Left: 9, Done: 9}}}, {{Count: bad}, {Count: api.Count{Has: true, Left: -5}}},
		{{}, {Count: api.Count{Left: 5, Done: 6}}}, {{Count: api.Count{Left: -5}}, {Count: api.Count{Left: 5}}},
	} {
		if Less(x[0], x[1]) || Less(x[1], x[0]) {
			t.Errorf("%v is not as %v", x[0], x[1])
		}
	}
}

func TestOrder(t *testing.T) { // 17.1
	for _, x := range [][2]string{
		{"", ""}, {"a.conf 1", "a.conf"}, {"a.conf 1 b+3.conf 2", "b+3.conf a.conf"}, {"b+3.conf 2 a.conf 1", "b+3.conf a.conf"},
		{"a.conf 2 b+3.conf 2", "a.conf b+3.conf"}, {"a+1.conf 2 b.conf 2", "b.conf a+1.conf"}, {"a.conf 1.9 b.conf 1.10", "b.conf a.conf"},
		{"a+0.conf 9 b.conf 1", "b.conf a+0.conf"}, {"a+0.conf 9 b+1.conf 1 c+0-1.conf 10", "b+1.conf c+0-1.conf a+0.conf"},
		{"b.conf 1.0 a.conf 1.00 c.conf 1-0", "a.conf b.conf c.conf"}, {"a+2.conf 1 a+10.conf 1", "a+10.conf a+2.conf"},
		{"a.conf 1~rc b.conf 1 c+9.conf 1", "b.conf c+9.conf a.conf"}, {"a.conf 1 a.conf 1 a.conf 2", "a.conf a.conf a.conf"},
		{"z+0.conf 9 b.conf 1 b+3.conf 2 c.conf 2 a.conf 1.0 a+1.conf 2 y+0-1.conf 10 x.conf 1", "c.conf a+1.conf b+3.conf a.conf b.conf x.conf y+0-1.conf z+0.conf"},
	} {
		var l []api.Cand
		for words := strings.Fields(x[0]); len(words) > 0; words = words[2:] {
			l = append(l, cand(t, words[0], words[1]))
		}
		if got := strings.Join(files(Order(l)), " "); got != x[1] {
			t.Errorf("%q: %q", x[0], got)
		}
	}
	if len(Order(nil)) != 0 || len(Order([]api.Cand{})) != 0 {
		t.Error(Order(nil), Order([]api.Cand{}))
	}
}

func TestOrderFromAny(t *testing.T) { // 17.1, W7: from any order, and whichever of them are there
	want := slices.Concat(inOrder(t)...)
	r := rand.New(rand.NewSource(17))
	for range 300 {
		if l := Order(shuffled(r, want)); !slices.Equal(l, want) {
			t.Fatal(l)
		}
		var some []api.Cand
		for _, c := range want {
			if r.Intn(4) == 0 {
				some = append(some, c)
			}
		}
		if l := Order(shuffled(r, some)); !slices.Equal(l, some) {
			t.Fatal(l)
		}
	}
}

func TestOrderKeepsOrder(t *testing.T) { // 17.1: what is the same as it came, of more than a few
	r := rand.New(rand.NewSource(18))
	for n := range 200 {
		l := make([]api.Cand, 3*n)
		for i := range l {
			l[i] = api.Cand{File: "ab"[i%2:][:1], Version: []string{"1.0", "1.00", "1-0", "2"}[r.Intn(4)], Count: api.Count{Has: r.Intn(2) == 0, Left: r.Intn(3), Done: r.Intn(3)}}
			l[i].Stem = fmt.Sprint(i) // by which each one is known
		}
		got := Order(l)
		for i := 1; i < len(got); i++ {
			a, b := got[i-1], got[i]
			if wantLess(b, a) || !wantLess(a, b) && slices.Index(l, a) >= slices.Index(l, b) {
				t.Fatalf("%v, %v", a, b)
			}
		}
		for _, c := range l {
			if !slices.Contains(got, c) {
				t.Fatalf("%v is gone", c)
			}
		}
		if len(got) != len(l) || !slices.Equal(Order(got), got) {
			t.Fatalf("%d of %d", len(got), len(l))
		}
	}
}

// shares says whether two texts lie in the same memory, even by one byte.
func shares(a, b string) bool {
	if a == "" || b == "" {
		return false
	}
	at, of := uintptr(unsafe.Pointer(unsafe.StringData(a))), uintptr(unsafe.Pointer(unsafe.StringData(b)))
	return at < of+uintptr(len(b)) && of < at+uintptr(len(a))
}

// anyShared says whether a text of a lies where one of b does.
func anyShared(a, b api.Cand) bool {
	for _, s := range []string{a.File, a.Stem, a.Version} {
		for _, x := range []string{b.File, b.Stem, b.Version} {
			if shares(s, x) {
				return true
			}
		}
	}
	return false
}

func TestNewMemory(t *testing.T) { // DOC.md, rule 3
	for _, s := range []string{"a+3-1.conf", "a.conf", "stem+x.conf"} {
		file, vers := strings.Clone(s), strings.Clone("1.2")
		if c := cand(t, file, vers); anyShared(c, api.Cand{File: file, Version: vers}) {
			t.Errorf("%v has what was handed in", c)
		}
	}
	room := []api.Cand{cand(t, "a.conf", "1"), cand(t, "b+1.conf", "2"), cand(t, "c.conf", "3"), cand(t, "d+0.conf", "4")}
	before := slices.Clone(room)
	l := Order(room[:2])
	for _, c := range l {
		for _, x := range room {
			if anyShared(c, x) {
				t.Errorf("%v has what was handed in", c)
			}
		}
	}
	if !slices.Equal(l, []api.Cand{room[1], room[0]}) || !slices.Equal(room, before) {
		t.Error(l, room)
	}
	clear(l[:cap(l)])
	if !slices.Equal(room, before) {
		t.Error(room)
	}
}
