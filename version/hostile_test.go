package version

import (
	"math/rand"
	"slices"
	"strings"
	"testing"
)

// text makes any bytes, of signs that make versions likely; texts that begin alike are likely, too.
func text(r *rand.Rand) string {
	const likely = "0001129abzAZ~~..-+"
	b := make([]byte, r.Intn(8))
	for i := range b {
		b[i] = likely[r.Intn(len(likely))]
		if r.Intn(50) == 0 {
			b[i] = byte(r.Intn(256))
		}
	}
	return []string{"", "", "1.", "1.10", "a~0", strings.Repeat("0", 70), strings.Repeat("7", 70)}[r.Intn(7)] + string(b)
}

// near is s with one sign more, which often says nothing, or another text.
func near(r *rand.Rand, s string) string {
	if r.Intn(2) == 0 {
		return text(r)
	}
	at := r.Intn(len(s) + 1)
	return s[:at] + []string{".", "-", "0", "1", "a", "~"}[r.Intn(6)] + s[at:]
}

// TestHostile asks for any bytes, and holds each answer against the second telling.
func TestHostile(t *testing.T) { // 15.1, 15.3
	r := rand.New(rand.NewSource(17))
	times := map[int]int{}
	for range 200000 {
		a := text(r)
		b := near(r, a)
		if l := Tokens(a); !slices.Equal(l, wantTokens(a)) {
			t.Fatalf("%q: %s, not %s", a, show(l), show(wantTokens(a)))
		}
		n := Compare(a, b)
		if n != wantCompare(a, b) || Compare(b, a) != -n || Compare(a, a) != 0 {
			t.Fatalf("%q, %q: %d, and back %d", a, b, n, Compare(b, a))
		}
		if a != b {
			times[n]++
		}
	}
	if times[-1] < 1000 || times[0] < 1000 || times[1] < 1000 {
		t.Error("few of a kind were met:", times)
	}
}

// TestOrder holds each three of some texts against each other.
func TestOrder(t *testing.T) { // 15.2
	r := rand.New(rand.NewSource(18))
	for range 20 {
		var l []string
		for range 20 {
			s := text(r)
			l = append(l, s, near(r, s))
		}
		for _, a := range l {
			for _, b := range l {
				for _, c := range l {
					x, y, z := Compare(a, b), Compare(b, c), Compare(a, c)
					if x <= 0 && y <= 0 && z != min(x, y) || x >= 0 && y >= 0 && z != max(x, y) {
						t.Fatalf("%q, %q, %q: %d, %d, %d", a, b, c, x, y, z)
					}
				}
			}
		}
	}
}

// TestNewestHostile asks for the newest of any texts: none is greater, and each one ahead of it is less.
func TestNewestHostile(t *testing.T) { // 15.1, W7
	r := rand.New(rand.NewSource(19))
	for range 5000 {
		l := make([]string, 1+r.Intn(12))
		for i := range l {
			l[i] = text(r)
		}
		at := Newest(l)
		for i, s := range l {
			if n := wantCompare(s, l[at]); n > 0 || n == 0 && i < at {
				t.Fatalf("%q: %d", l, at)
			}
		}
		k := Sort(l)
		if Compare(k[len(k)-1], l[at]) != 0 || slices.Index(k, l[at]) < 0 {
			t.Fatalf("%q: %q", l, k)
		}
	}
}

// TestGreat asks for texts of millions of bytes, of each class and of several.
func TestGreat(t *testing.T) { // 15.3
	const n = 1 << 21
	var l []string
	for _, s := range []string{"~", "0", "1", "a", ".", "\xff", "0.", "1a", "~1", "00a.~"} {
		l = append(l, strings.Repeat(s, n/len(s)))
	}
	for i, a := range l {
		if k := len(Tokens(a)); k != []int{n, 1, 1, 1, 0, 0, n / 2, n, n, n / 5 * 3}[i] {
			t.Errorf("%.9q: %d tokens", a, k)
		}
		if Compare(a, a) != 0 || Compare(a+"1", a) == 0 || Compare(a+"1", a) != -Compare(a, a+"1") {
			t.Errorf("%.9q: %d", a, Compare(a+"1", a))
		}
		for _, b := range l {
			if Compare(a, b) != -Compare(b, a) {
				t.Errorf("%.9q, %.9q: %d", a, b, Compare(a, b))
			}
		}
	}
	if k := Sort(l); len(k) != len(l) || k[0] != l[0] || Newest(l) != 2 {
		t.Errorf("%.9q, %d", k, Newest(l))
	}
}

// TestMany sorts lists of many texts, most of which are the same.
func TestMany(t *testing.T) { // 15.1, 15.3
	l := make([]string, 300000)
	for i := range l {
		l[i] = []string{"1.0", "1.00", "1", "2~rc", "2"}[i*7919%5]
	}
	k := Sort(l)
	if k[0] != "1" || k[len(k)-1] != "2" || !slices.IsSortedFunc(k, Compare) {
		t.Errorf("%q, %q", k[0], k[len(k)-1])
	}
	if at := Newest(l); at != slices.Index(l, "2") {
		t.Error(at)
	}
}
