package count

import (
	"math/rand"
	"strings"
	"testing"

	"credenza/api"
)

// text makes any bytes, of signs that make counters likely.
func text(r *rand.Rand) string {
	const likely = "++++---0012399a.\n"
	b := make([]byte, r.Intn(9))
	for i := range b {
		b[i] = likely[r.Intn(len(likely))]
		if r.Intn(50) == 0 {
			b[i] = byte(r.Intn(256))
		}
	}
	return []string{"", "", "a", "a+", "a+1-", "a+10", "+", strings.Repeat("+1", 40)}[r.Intn(8)] + string(b)
}

// TestHostile asks for any bytes, and holds each answer against the second telling.
func TestHostile(t *testing.T) { // 16.1, 16.2, 16.3
	r := rand.New(rand.NewSource(16))
	times := map[int]int{}
	for range 300000 {
		file := text(r) + []string{".conf", ".conf", ".conf", ".con", ""}[r.Intn(5)]
		held(t, file)
		switch _, c, ok := Split(file); {
		case !ok:
			times[0]++
		case !c.Has:
			times[1]++
		case c.Done == 0:
			times[2]++
		default:
			times[3]++
		}
	}
	if times[0] < 1000 || times[1] < 1000 || times[2] < 1000 || times[3] < 1000 {
		t.Error("few of a kind were met:", times)
	}
}

// TestThereAndBack joins any stem with any count that is Ok. A stem without a count comes back if it does not end in a
// counter; one with a count does so whatever it ends in, as the last sign is the count's own.
func TestThereAndBack(t *testing.T) { // 16.2, W8
	r := rand.New(rand.NewSource(17))
	bare := 0
	for range 300000 {
		stem, c := text(r), has(r.Intn(100), r.Intn(3)*r.Intn(50))
		if stem == "" {
			stem = "a"
		}
		if r.Intn(3) == 0 {
			c = Good()
			if aCounter.MatchString(stem) {
				continue
			}
			bare++
		}
		if s, k, ok := Split(Join(stem, c)); s != stem || k != c || !ok {
			t.Fatalf("%q, %v: %q, %v, %v", stem, c, s, k, ok)
		}
	}
	if bare < 1000 {
		t.Error("few without a count were met:", bare)
	}
}

// TestGreat asks for texts of millions of bytes.
func TestGreat(t *testing.T) { // 16.3
	const n = 1 << 21
	for _, s := range []string{"a", "+", "-", "0", "1", "9", ".", "\xff", "+1", "+1-1", "1-", "-+", ".conf", "+1.conf"} {
		long := strings.Repeat(s, n)
		for _, file := range []string{long, long + ".conf", long + "+1.conf", long + "+12-34.conf", "a+" + long + ".conf", "a+1-" + long + ".conf", "+" + long + ".conf"} {
			stem, c, ok := Split(file)
			if ok != strings.HasSuffix(file, ".conf") || ok && Join(stem, c) != file {
				t.Errorf("%.9q: %.9q, %v, %v", file, stem, c, ok)
			}
		}
		if stem, c, _ := Split(long + "+12-34.conf"); stem != long || c != has(12, 34) {
			t.Errorf("%.9q: %v", long, c)
		}
		if stem, c, _ := Split("a+1" + strings.Repeat("1", n) + ".conf"); len(stem) != n+3 || c != (api.Count{}) {
			t.Errorf("%.9q: %v", stem, c)
		}
	}
}
