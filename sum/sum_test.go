package sum

import (
	"bytes"
	"fmt"
	"hash/fnv"
	"math"
	"math/rand"
	"strings"
	"testing"
)

// texts are some ordinary and some odd bytes.
func texts() [][]byte {
	l := [][]byte{nil, {}, {0}, {0xff}, []byte("a"), []byte("foobar"), []byte("entry 1\n"), bytes.Repeat([]byte{0}, 128), bytes.Repeat([]byte{0xff}, 4000)}
	r := rand.New(rand.NewSource(1))
	for range 200 {
		b := make([]byte, r.Intn(300))
		r.Read(b)
		l = append(l, b)
	}
	return l
}

func TestOf(t *testing.T) { // 2.1
	for _, b := range texts() {
		h := fnv.New64a()
		h.Write(b)
		if n := Of(b); n != h.Sum64() {
			t.Errorf("%x: %x, not %x", b, n, h.Sum64())
		}
	}
}

func TestExample(t *testing.T) {
	if s := Hex(Of(nil)); s != "cbf29ce484222325" {
		t.Error(s)
	}
}

func TestParts(t *testing.T) { // 2.1
	l := texts()
	if Parts() != Of(nil) || Parts(nil) != Of(nil) || Parts(nil, []byte{}) != Of(nil) || Parts(l...) != Of(bytes.Join(l, nil)) {
		t.Error(Parts(), Parts(nil), Parts(l...))
	}
	for i, b := range l {
		next := l[(i+1)%len(l)]
		if Parts(b) != Of(b) || Parts(b, nil, next) != Of(append(bytes.Clone(b), next...)) {
			t.Errorf("%x, %x", b, next)
		}
		for k := range len(b) {
			if Parts(b[:k], b[k:]) != Of(b) {
				t.Errorf("%x parted at %d", b, k)
			}
		}
	}
}

func TestHex(t *testing.T) { // 2.1, 2.2, W8
	l := []uint64{0, 1, 9, 10, 15, 16, 0xabcdef, 0x0123456789abcdef, 0xfedcba9876543210, 1 << 63, math.MaxInt64, math.MaxUint64}
	r := rand.New(rand.NewSource(2))
	for i := range 1000 {
		l = append(l, r.Uint64()>>(i%64))
	}
	for _, n := range l {
		s := Hex(n)
		if s != fmt.Sprintf("%016x", n) {
			t.Errorf("%d: %q", n, s)
		}
		if m, ok := Unhex(s); m != n || !ok {
			t.Errorf("%q: %d %v, not %d", s, m, ok, n)
		}
	}
}

func TestUnhexEachSign(t *testing.T) { // 2.1: every byte at every place
	for place := range 16 {
		for c := range 256 {
			b := []byte("0123456789abcdef")
			b[place] = byte(c)
			n, ok := Unhex(string(b))
			if want := strings.Contains("0123456789abcdef", string([]byte{byte(c)})); ok != want || !ok && n != 0 {
				t.Errorf("%q: %d %v", b, n, ok)
			}
			if ok && Hex(n) != string(b) {
				t.Errorf("%q: read as %q", b, Hex(n))
			}
		}
	}
}

func TestUnhexWrong(t *testing.T) { // 2.1, 2.3
	for _, s := range []string{"", "0", "000000000000000", "00000000000000000", "0x00000000000000", "+000000000000001",
		"-000000000000001", " 00000000000001 ", "0000_0000_0000_0", "ABCDEF0123456789", "000000000000000\x00",
		"éééééééé", "０００００", strings.Repeat("\xff", 16), strings.Repeat("f", 1<<20)} {
		if n, ok := Unhex(s); n != 0 || ok {
			t.Errorf("%q: %d", s, n)
		}
	}
}

func TestNothingChanged(t *testing.T) { // DOC.md, rule 3
	b := []byte("abcdef")
	parts := [][]byte{b[:2], b[2:4]}
	Of(b[:3])
	Parts(parts...)
	if string(b) != "abcdef" || string(parts[0]) != "ab" || string(parts[1]) != "cd" {
		t.Errorf("%q %q", b, parts)
	}
}
