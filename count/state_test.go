package count

import (
	"math"
	"testing"

	"credenza/api"
)

// edges are numbers at the bounds that the chapter names, and at an int's.
func edges() []int {
	return []int{math.MinInt, math.MinInt + 1, -100, -99, -2, -1, 0, 1, 2, 50, 97, 98, 99, 100, 101, 200, math.MaxInt - 1, math.MaxInt}
}

// each calls f with every count of two of the edges, with Has and without it.
func each(f func(c api.Count)) {
	for _, left := range edges() {
		for _, done := range edges() {
			f(api.Count{Left: left, Done: done})
			f(has(left, done))
		}
	}
}

func TestOk(t *testing.T) { // 16.1
	each(func(c api.Count) {
		want := c.Left == 0 && c.Done == 0
		if c.Has {
			want = c.Left > -1 && c.Left < 100 && c.Done > -1 && c.Done < 100
		}
		if Ok(c) != want {
			t.Errorf("%v: %v", c, Ok(c))
		}
	})
}

func TestState(t *testing.T) { // 16.1
	if api.KGood != 0 || api.KTrying != 1 || api.KBad != 2 {
		t.Error(api.KGood, api.KTrying, api.KBad)
	}
	each(func(c api.Count) {
		want := 2
		if c.Left >= 1 {
			want = 1
		}
		if !c.Has {
			want = 0
		}
		if State(c) != want {
			t.Errorf("%v: %d, not %d", c, State(c), want)
		}
	})
}

func TestSpend(t *testing.T) { // 16.1
	each(func(c api.Count) {
		want, can := c, false
		if c.Has && c.Left > 0 && c.Done < 99 {
			want, can = has(c.Left-1, c.Done+1), true
		}
		if got, ok := Spend(c); got != want || ok != can {
			t.Errorf("%v: %v, %v, not %v, %v", c, got, ok, want, can)
		}
		if got, ok := Spend(c); ok && Ok(c) && !Ok(got) {
			t.Errorf("%v: %v is no name's", c, got)
		}
	})
	for _, x := range []struct {
		c, spent api.Count
		can      bool
	}{
		{has(3, 0), has(2, 1), true}, {has(1, 0), has(0, 1), true}, {has(1, 98), has(0, 99), true}, {has(1, 99), has(1, 99), false}, {has(1, 100), has(1, 100), false},
		{has(0, 0), has(0, 0), false}, {has(0, 5), has(0, 5), false}, {has(-1, 5), has(-1, 5), false}, {api.Count{}, api.Count{}, false}, {api.Count{Left: 3, Done: 1}, api.Count{Left: 3, Done: 1}, false},
	} {
		if got, ok := Spend(x.c); got != x.spent || ok != x.can {
			t.Errorf("%v: %v, %v", x.c, got, ok)
		}
	}
}

func TestBad(t *testing.T) { // 16.1
	each(func(c api.Count) {
		want := has(0, 0)
		if c.Has {
			want.Done = c.Done
		}
		if got := Bad(c); got != want {
			t.Errorf("%v: %v, not %v", c, got, want)
		}
		if State(Bad(c)) != api.KBad || Bad(Bad(c)) != Bad(c) || Ok(c) && !Ok(Bad(c)) {
			t.Errorf("%v: %v", c, Bad(c))
		}
		if _, ok := Spend(Bad(c)); ok {
			t.Errorf("%v: a try of a bad one was spent", c)
		}
	})
}

func TestGood(t *testing.T) { // 16.1
	if c := Good(); c != (api.Count{}) || !Ok(c) || State(c) != api.KGood || Join("a", c) != "a.conf" {
		t.Error(c)
	}
}

// TestTries spends the tries of an entry from name to name, as starts do, till there are none left.
func TestTries(t *testing.T) { // W5
	for n := range 100 {
		file := Join("a", has(n, 0))
		starts := 0
		for {
			stem, c, ok := Split(file)
			if !ok || stem != "a" || c != has(n-starts, starts) {
				t.Fatalf("of %d: %q: %q, %v, %v", n, file, stem, c, ok)
			}
			c, ok = Spend(c)
			if !ok {
				break
			}
			starts++
			file = Join(stem, c)
		}
		if starts != n || file != Join("a", has(0, n)) {
			t.Errorf("of %d: %d, %q", n, starts, file)
		}
		if _, c, _ := Split(file); State(c) != api.KBad || Bad(c) != c {
			t.Errorf("of %d: %v", n, c)
		}
	}
}

// TestTriesOfAny spends the tries of any count that a name tells: never more than are left, and each once.
func TestTriesOfAny(t *testing.T) { // 16.1, W5
	for left := range 100 {
		for done := range 100 {
			c, starts := has(left, done), 0
			for next, ok := Spend(c); ok; next, ok = Spend(c) {
				c = next
				starts++
			}
			if starts != min(left, 99-done) || c != has(left-starts, done+starts) || !Ok(c) {
				t.Fatalf("%d, %d: %d, %v", left, done, starts, c)
			}
		}
	}
}
