package pick

import (
	"cmp"
	"math"
	"math/rand"
	"slices"
	"strings"
	"testing"

	"credenza/api"
	"credenza/version"
)

// wantLess is a second telling of Less: all that is asked, one behind the other, and the first answer that is none.
func wantLess(a, b api.Cand) bool {
	x, y := weights(a), weights(b)
	n := cmp.Or(x[0]-y[0], version.Compare(b.Version, a.Version), x[1]-y[1])
	return n < 0 || n == 0 && a.File < b.File
}

// weights are whether a candidate is bad, and whether it is none that is good.
func weights(c api.Cand) (l [2]int) {
	if c.Count.Has && c.Count.Left < 1 {
		l[0] = 1
	}
	if c.Count.Has {
		l[1] = 1
	}
	return l
}

// raw makes any candidate, also one that Of answers of no name; those that are alike in much are likely.
func raw(r *rand.Rand) api.Cand {
	numbers := []int{0, 0, 0, 1, 1, 2, 3, 99, 100, -1, math.MaxInt, math.MinInt}
	b := make([]byte, r.Intn(3))
	for i := range b {
		b[i] = "abAB.+\xff\x00"[r.Intn(8)]
	}
	return api.Cand{
		File: string(b), Stem: []string{"", "a", "b"}[r.Intn(3)],
		Count:   api.Count{Has: r.Intn(3) > 0, Left: numbers[r.Intn(len(numbers))], Done: numbers[r.Intn(len(numbers))]},
		Version: []string{"", ".", "~", "1", "1.0", "1.00", "1-0", "1~rc", "2", "02", "10", "a", "\xff"}[r.Intn(13)],
	}
}

// TestHostile holds any two candidates against each other, and against the second telling.
func TestHostile(t *testing.T) { // 17.1, 17.2, 17.3
	r := rand.New(rand.NewSource(19))
	times := map[int]int{}
	for range 300000 {
		a, b := raw(r), raw(r)
		less, more := Less(a, b), Less(b, a)
		if less != wantLess(a, b) || more != wantLess(b, a) || less && more || Less(a, a) {
			t.Fatalf("%v, %v: %v, and back %v", a, b, less, more)
		}
		if a.File != b.File && less == more {
			t.Fatalf("%v, %v: none is Less", a, b)
		}
		if a != b {
			times[hold(a, b)]++
		}
	}
	if times[-1] < 1000 || times[0] < 1000 || times[1] < 1000 {
		t.Error("few of a kind were met:", times)
	}
}

// TestInOneLine holds each three of some candidates against each other: what is Less, and what is the same, goes on
// from one to the next.
func TestInOneLine(t *testing.T) { // 17.2
	r := rand.New(rand.NewSource(20))
	for range 20 {
		l := make([]api.Cand, 40)
		for i := range l {
			l[i] = raw(r)
		}
		for _, a := range l {
			for _, b := range l {
				for _, c := range l {
					if x, y, z := hold(a, b), hold(b, c), hold(a, c); x <= 0 && y <= 0 && z != min(x, y) {
						t.Fatalf("%v, %v, %v: %d, %d, %d", a, b, c, x, y, z)
					}
				}
			}
		}
	}
}

// TestFirstThatLoads goes down the order as a start does: whichever load, the first of them that is startable has none
// ahead of it.
func TestFirstThatLoads(t *testing.T) { // W7
	r := rand.New(rand.NewSource(21))
	none := 0
	for range 20000 {
		l := make([]api.Cand, r.Intn(10))
		loads := map[string]int{}
		for i := range l {
			l[i] = raw(r)
			l[i].File += strings.Repeat("x", i)
			loads[l[i].File] = r.Intn(2)
		}
		may := func(c api.Cand) bool { return Startable(c) && loads[c.File] == 1 }
		order := Order(l)
		at := slices.IndexFunc(order, may)
		if at < 0 {
			none++
		}
		for _, c := range l {
			if may(c) && (at < 0 || wantLess(c, order[at])) {
				t.Fatalf("%v: %v goes ahead", order, c)
			}
		}
		if i := slices.IndexFunc(order, func(c api.Cand) bool { return !Startable(c) }); i >= 0 && at > i {
			t.Fatalf("%v: a bad one goes ahead", order)
		}
	}
	if none < 1000 || none > 19000 {
		t.Error("few of a kind were met:", none)
	}
}

// TestGreat asks for texts of millions of bytes.
func TestGreat(t *testing.T) { // 17.3
	const n = 1 << 21
	for _, s := range []string{"a", "+", "0", "1", "~", ".", "\xff", "+1", "1a", "1.", ".conf"} {
		long := strings.Repeat(s, n)
		a, ok := Of(long+"x.conf", long)
		b, also := Of(long+"+1.conf", long+".")
		if !ok || !also || a.File != long+"x.conf" || b.Stem != long || b.Count != (api.Count{Has: true, Left: 1}) || b.Version != long+"." {
			t.Errorf("%.9q: %v, %v", s, ok, also)
		}
		if !Less(a, b) || Less(b, a) {
			t.Errorf("%.9q: the trying one goes first", s)
		}
		b.Version += "1"
		if Less(a, b) || !Less(b, a) {
			t.Errorf("%.9q: the elder one goes first", s)
		}
		b.Count.Left = 0
		if l := Order([]api.Cand{b, a, b, a}); l[0] != a || l[1] != a || l[2] != b || l[3] != b {
			t.Errorf("%.9q", s)
		}
		if c, ok := Of(long, long); ok != strings.HasSuffix(long, ".conf") || !ok && c != (api.Cand{}) {
			t.Errorf("%.9q: %v", s, ok)
		}
	}
}

// TestMany orders many candidates, most of which are the same.
func TestMany(t *testing.T) { // 17.1, 17.3
	r := rand.New(rand.NewSource(22))
	l := make([]api.Cand, 200000)
	for i := range l {
		l[i] = raw(r)
	}
	want := slices.Clone(l)
	slices.SortStableFunc(want, func(a, b api.Cand) int {
		switch {
		case wantLess(a, b):
			return -1
		case wantLess(b, a):
			return 1
		}
		return 0
	})
	if !slices.Equal(Order(l), want) {
		t.Error("not in order")
	}
}
