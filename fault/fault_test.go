package fault

import (
	"errors"
	"fmt"
	"math"
	"slices"
	"strings"
	"testing"

	"credenza/api"
)

// loop wraps itself, so its chain has no end and no Fault.
type loop struct{}

func (loop) Error() string   { return "loop" }
func (l loop) Unwrap() error { return l }

// grows wraps another one each time: no link comes twice, and none is the last.
type grows int

func (grows) Error() string   { return "grows" }
func (g grows) Unwrap() error { return g + 1 }

// crowd wraps many of itself side by side.
type crowd struct{}

func (crowd) Error() string   { return "crowd" }
func (crowd) Unwrap() []error { return slices.Repeat([]error{crowd{}}, 1000) }

// bites panics whatever it is asked.
type bites struct{}

func (bites) Error() string   { panic("Error") }
func (bites) Unwrap() error   { panic("Unwrap") }
func (bites) As(any) bool     { panic("As") }
func (bites) Is(e error) bool { panic("Is") }

// bitesMany panics when it is asked for what it has joined.
type bitesMany struct{}

func (bitesMany) Error() string   { return "" }
func (bitesMany) Unwrap() []error { panic("Unwrap") }

// says answers errors.As by a method of its own.
type says struct{ n api.Errno }

func (says) Error() string { return "says" }
func (s says) As(target any) bool {
	p, ok := target.(*api.Errno)
	if ok {
		*p = s.n
	}
	return ok
}

// plain wraps an error without telling its text, which a ring has none of.
type plain struct{ err error }

func (plain) Error() string   { return "plain" }
func (p plain) Unwrap() error { return p.err }

// list can't be held against another one.
type list []error

func (list) Error() string { return "list" }

// chain is a chain of n Faults above ErrForm, the outmost named n - 1.
func chain(n int) error {
	err := error(api.ErrForm)
	for i := range n {
		err = Wrap("op"+fmt.Sprint(i), fmt.Sprint(i), err)
	}
	return err
}

// ring is a Fault that is its own reason.
func ring() error {
	f := &api.Fault{Op: "ring", Name: "r"}
	f.Err = f
	return f
}

// ringJoined is a Fault whose reason has it among others.
func ringJoined() error {
	f := &api.Fault{Op: "ring", Name: "j"}
	f.Err = errors.Join(errors.New("x"), f)
	return f
}

func TestNew(t *testing.T) { // 1.1
	if err := New("op", "name", api.OK); err != nil {
		t.Errorf("New of OK: %v", err)
	}
	for _, n := range []api.Errno{api.ErrArg, api.ErrMany, 4, -1, math.MaxInt, math.MinInt} {
		f, ok := New("op", "name", n).(*api.Fault)
		if !ok || *f != (api.Fault{Op: "op", Name: "name", Err: n}) {
			t.Errorf("New of %d: %v", n, f)
		}
	}
	f, ok := New("", "", api.ErrBig).(*api.Fault)
	if !ok || *f != (api.Fault{Err: api.ErrBig}) {
		t.Errorf("New of empty texts: %v", f)
	}
}

func TestWrap(t *testing.T) { // 1.1
	if err := Wrap("op", "name", nil); err != nil {
		t.Errorf("Wrap of nil: %v", err)
	}
	for _, e := range []error{api.ErrNone, api.OK, New("a", "b", api.ErrDir), errors.New("x"), (*api.Fault)(nil)} {
		f, ok := Wrap("op", "name", e).(*api.Fault)
		if !ok || f.Op != "op" || f.Name != "name" || f.Err != e || errors.Unwrap(f) != e {
			t.Errorf("Wrap of %v: %v", e, f)
		}
	}
}

func TestNum(t *testing.T) { // 1.1
	a := New("read", "/b", api.ErrNone)
	for i, x := range []struct {
		err error
		n   api.Errno
	}{
		{nil, api.OK},
		{api.OK, api.OK},
		{Wrap("a", "", api.OK), api.OK},
		{api.ErrDead, api.ErrDead},
		{api.Errno(-7), -7},
		{a, api.ErrNone},
		{Wrap("boot", "a", a), api.ErrNone},
		{chain(5000), api.ErrForm},
		{fmt.Errorf("y: %w", a), api.ErrNone},
		{Wrap("z", "", fmt.Errorf("y: %w", a)), api.ErrNone},
		{errors.New("x"), api.ErrArg},
		{Wrap("p", "q", errors.New("x")), api.ErrArg},
		{&api.Fault{Op: "p"}, api.ErrArg},
		{errors.Join(errors.New("x"), a, api.ErrBig), api.ErrNone},
		{Wrap("p", "", errors.Join(errors.New("x"), errors.Join(nil, api.ErrBig), a)), api.ErrBig},
		{errors.Join(errors.New("x"), errors.New("y")), api.ErrArg},
		{Wrap("p", "", says{api.ErrHeld}), api.ErrHeld},
		{list{api.ErrBig}, api.ErrArg},
	} {
		if n := Num(x.err); n != x.n {
			t.Errorf("%d: %d, not %d", i, n, x.n)
		}
	}
}

func TestOpsAndNames(t *testing.T) { // 1.1
	a := New("read", "/b", api.ErrNone)
	for i, x := range []struct {
		err        error
		ops, names []string
	}{
		{nil, nil, nil},
		{api.ErrDead, nil, nil},
		{errors.New("x"), nil, nil},
		{a, []string{"read"}, []string{"/b"}},
		{Wrap("console", "", Wrap("boot", "a", a)), []string{"console", "boot", "read"}, []string{"", "a", "/b"}},
		{Wrap("p", "q", errors.New("x")), []string{"p"}, []string{"q"}},
		{Wrap("c", "d", fmt.Errorf("y: %w", a)), []string{"c", "read"}, []string{"d", "/b"}},
		{fmt.Errorf("z: %w", fmt.Errorf("y: %w", a)), []string{"read"}, []string{"/b"}},
		{New("", "", api.ErrBig), []string{""}, []string{""}},
		{errors.Join(a, a), nil, nil}, // errors.Unwrap does not go on below these
		{Wrap("c", "d", errors.Join(a, a)), []string{"c"}, []string{"d"}},
	} {
		if ops, names := Ops(x.err), Names(x.err); !slices.Equal(ops, x.ops) || !slices.Equal(names, x.names) {
			t.Errorf("%d: %q %q", i, ops, names)
		}
		if n := Depth(x.err); n != len(x.ops) {
			t.Errorf("%d: depth %d", i, n)
		}
	}
}

func TestAtMostAHundred(t *testing.T) { // 1.1
	for _, n := range []int{0, 1, 99, 100, 101, 5000} {
		err := chain(n)
		ops, names := Ops(err), Names(err)
		if len(ops) != min(n, 100) || len(names) != len(ops) {
			t.Fatalf("%d: %d Ops, %d Names", n, len(ops), len(names))
		}
		for i := range ops {
			if s := fmt.Sprint(n - 1 - i); names[i] != s || ops[i] != "op"+s {
				t.Fatalf("%d: the %dth is %q %q", n, i, ops[i], names[i])
			}
		}
		if d := Depth(err); n <= 100 && d != n {
			t.Errorf("%d: depth %d", n, d)
		}
		if s := Text(err); strings.Count(s, ": ") != min(n, 100) || !strings.HasSuffix(s, "error 3") {
			t.Errorf("%d: text of %d bytes", n, len(s))
		}
	}
	err := chain(3)
	for range 1000 { // links that are no Faults do not count
		err = fmt.Errorf("%w", err)
	}
	if len(Ops(err)) != 3 || len(Names(err)) != 3 || Depth(err) != 3 {
		t.Error(len(Ops(err)), len(Names(err)), Depth(err))
	}
}

func TestText(t *testing.T) { // 1.1 and the chapter's example
	a := New("read", "/b", api.ErrNone)
	for i, x := range []struct {
		err  error
		text string
	}{
		{nil, ""},
		{Wrap("boot", "a", a), "boot a: read /b: error 11"},
		{Wrap("console", "", Wrap("boot", "a", a)), "console: boot a: read /b: error 11"},
		{api.ErrDead, "error 50"},
		{api.OK, "error 0"},
		{errors.New("x"), "error 1"},
		{Wrap("p", "q", errors.New("x")), "p q: error 1"},
		{New("", "", api.ErrBig), ": error 5"},
		{New("", "n", api.ErrBig), " n: error 5"},
		{New("a: ", " b", -2), "a:   b: error -2"},
		{fmt.Errorf("y: %w", a), "read /b: error 11"},
		{errors.Join(a, api.ErrBig), "error 11"},
	} {
		if s := Text(x.err); s != x.text {
			t.Errorf("%d: %q, not %q", i, s, x.text)
		}
	}
}

func TestAsked(t *testing.T) { // 1.2
	numbers := []api.Errno{api.ErrArg, api.ErrLong, api.ErrForm, api.ErrNone, api.ErrDead, api.ErrMany}
	for _, n := range numbers {
		err := New("in", "x", n)
		for i := range 4 {
			out := fmt.Sprint("out", i)
			err = Wrap(out, "y", err)
			for _, m := range numbers {
				if errors.Is(err, m) != (Num(err) == m) || (m == n) != errors.Is(err, m) {
					t.Errorf("%d: Is %d: %v", n, m, errors.Is(err, m))
				}
			}
			var f *api.Fault
			if !errors.As(err, &f) || error(f) != err || f.Op != out {
				t.Errorf("%d: As finds %v", n, f)
			}
		}
	}
}

func TestEndless(t *testing.T) { // 1.1, 1.3
	for i, x := range []struct {
		err   error
		depth int
	}{
		{ring(), 100},
		{plain{ring()}, 100},
		{loop{}, 0},
		{Wrap("a", "b", loop{}), 1},
		{grows(0), 0},
		{Wrap("a", "b", Wrap("c", "d", grows(0))), 2},
		{ringJoined(), 1},
		{Wrap("a", "b", crowd{}), 1},
		{errors.Join(errors.New("x"), loop{}), 0},
	} {
		if len(Ops(x.err)) != x.depth || len(Names(x.err)) != x.depth || Depth(x.err) != x.depth {
			t.Errorf("%d: %d, not %d", i, Depth(x.err), x.depth)
		}
		if n := Num(x.err); n != api.ErrArg {
			t.Errorf("%d: number %d", i, n)
		}
		if s := Text(x.err); strings.Count(s, ": ") != x.depth || !strings.HasSuffix(s, "error 1") {
			t.Errorf("%d: %q", i, s)
		}
	}
}

func TestNoPanic(t *testing.T) { // 1.3
	for i, x := range []struct {
		err  error
		text string
	}{
		{(*api.Fault)(nil), "error 1"},
		{Wrap("a", "b", (*api.Fault)(nil)), "a b: error 1"},
		{&api.Fault{}, ": error 1"},
		{bites{}, "error 1"},
		{Wrap("a", "b", Wrap("c", "", bites{})), "a b: c: error 1"},
		{bitesMany{}, "error 1"},
		{Wrap("a", "b", errors.Join(bitesMany{})), "a b: error 1"},
		{errors.Join(bites{}, bites{}), "error 1"},
		{Wrap("a", "b", list{nil}), "a b: error 1"},
		{struct{ error }{}, "error 1"},
	} {
		if s := Text(x.err); s != x.text {
			t.Errorf("%d: %q, not %q", i, s, x.text)
		}
		if len(Ops(x.err)) != Depth(x.err) || len(Names(x.err)) != Depth(x.err) {
			t.Errorf("%d: %q %q, depth %d", i, Ops(x.err), Names(x.err), Depth(x.err))
		}
	}
}

func TestDeepJoined(t *testing.T) { // 1.3: more than errors.As has room for
	err := error(api.ErrBig)
	for range 1 << 23 {
		err = errors.Join(err)
	}
	if Num(err) != api.ErrArg || Depth(err) != 0 {
		t.Error(Num(err), Depth(err))
	}
}

func TestAnswersAreNew(t *testing.T) { // 1.1: an answer shares no memory with another one
	err := chain(3)
	ops, names := Ops(err), Names(err)
	ops[0], names[0] = "x", "x"
	if Ops(err)[0] != "op2" || Names(err)[0] != "2" {
		t.Error(Ops(err), Names(err))
	}
}
