package fault

import (
	"errors"
	"fmt"
	"math"
	"slices"
	"strings"
	"testing"

	"credenza/api"
)

// loop wraps itself, so its chain has no end and no Fault.
type loop struct{}

func (loop) Error() string   { return "loop" }
func (l loop) Unwrap() error { return l }

// grows wraps another one each time: no link comes twice, and none is the last.
type grows int

func (grows) Error() string   { return "grows" }
func (g grows) Unwrap() error { return g + 1 }

// spin is a chain of n links that leads back to its first one, without a Fault.
func spin(n int) error {
	first := &link{}
	at := first
	for range n - 1 {
		at.err = &link{}
		at = at.err.(*link)
	}
	at.err = first
	return first
}

// spinFault is a chain of n links and one Fault that leads back to its first one.
func spinFault(n int) error {
	f := &api.Fault{Op: "spin"}
	err := error(f)
	for range n {
		err = &link{err}
	}
	f.Err = err
	return err
}

type link struct{ err error }

func (*link) Error() string   { return "link" }
func (l *link) Unwrap() error { return l.err }

// ringList joins itself, and has no ==.
func ringList() error {
	l := joins{errors.New("x"), nil}
	l[1] = l
	return l
}

type joins []error

func (joins) Error() string     { return "joins" }
func (j joins) Unwrap() []error { return j }

// tells wraps an error, and answers errors.As ahead of it.
type tells struct {
	says
	err error
}

func (t tells) Unwrap() error { return t.err }

// tellsMany wraps several, and answers errors.As ahead of them.
type tellsMany struct {
	says
	joins
}

func (tellsMany) Error() string { return "" }

// brood joins one more of its kind each time.
type brood struct{}

func (brood) Error() string   { return "brood" }
func (brood) Unwrap() []error { return []error{brood{}} }

// bites panics whatever it is asked.
type bites struct{}

func (bites) Error() string   { panic("Error") }
func (bites) Unwrap() error   { panic("Unwrap") }
func (bites) As(any) bool     { panic("As") }
func (bites) Is(e error) bool { panic("Is") }

// bitesMany panics when it is asked for what it has joined.
type bitesMany struct{}

func (bitesMany) Error() string   { return "" }
func (bitesMany) Unwrap() []error { panic("Unwrap") }

// says answers errors.As by a method of its own.
type says struct{ n api.Errno }

func (says) Error() string { return "says" }
func (s says) As(target any) bool {
	p, ok := target.(*api.Errno)
	if ok {
		*p = s.n
	}
	return ok
}

// plain wraps an error without telling its text, which a ring has none of.
type plain struct{ err error }

func (plain) Error() string   { return "plain" }
func (p plain) Unwrap() error { return p.err }

// heap can't be held against another one.
type heap []error

func (heap) Error() string { return "heap" }

// chain is a chain of n Faults above ErrForm, the outmost named n - 1.
func chain(n int) error {
	err := error(api.ErrForm)
	for i := range n {
		err = Wrap("op"+fmt.Sprint(i), fmt.Sprint(i), err)
	}
	return err
}

// ring is a Fault that is its own reason.
func ring() error {
	f := &api.Fault{Op: "ring", Name: "r"}
	f.Err = f
	return f
}

// ringJoined is a Fault whose reason has it among others.
func ringJoined() error {
	f := &api.Fault{Op: "ring", Name: "j"}
	f.Err = errors.Join(errors.New("x"), f)
	return f
}

func TestNew(t *testing.T) { // 1.1
	if err := New("op", "name", api.OK); err != nil {
		t.Errorf("New of OK: %v", err)
	}
	for _, n := range []api.Errno{api.ErrArg, api.ErrMany, 4, -1, math.MaxInt, math.MinInt} {
		f, ok := New("op", "name", n).(*api.Fault)
		if !ok || *f != (api.Fault{Op: "op", Name: "name", Err: n}) {
			t.Errorf("New of %d: %v", n, f)
		}
	}
	f, ok := New("", "", api.ErrBig).(*api.Fault)
	if !ok || *f != (api.Fault{Err: api.ErrBig}) {
		t.Errorf("New of empty texts: %v", f)
	}
}

func TestWrap(t *testing.T) { // 1.1
	if err := Wrap("op", "name", nil); err != nil {
		t.Errorf("Wrap of nil: %v", err)
	}
	for _, e := range []error{api.ErrNone, api.OK, New("a", "b", api.ErrDir), errors.New("x"), (*api.Fault)(nil)} {
		f, ok := Wrap("op", "name", e).(*api.Fault)
		if !ok || f.Op != "op" || f.Name != "name" || f.Err != e || errors.Unwrap(f) != e {
			t.Errorf("Wrap of %v: %v", e, f)
		}
	}
}

func TestNum(t *testing.T) { // 1.1
	a := New("read", "/b", api.ErrNone)
	for i, x := range []struct {
		err error
		n   api.Errno
	}{
		{nil, api.OK},
		{api.OK, api.OK},
		{Wrap("a", "", api.OK), api.OK},
		{api.ErrDead, api.ErrDead},
		{api.Errno(-7), -7},
		{a, api.ErrNone},
		{Wrap("boot", "a", a), api.ErrNone},
		{chain(5000), api.ErrForm},
		{fmt.Errorf("y: %w", a), api.ErrNone},
		{Wrap("z", "", fmt.Errorf("y: %w", a)), api.ErrNone},
		{errors.New("x"), api.ErrArg},
		{Wrap("p", "q", errors.New("x")), api.ErrArg},
		{&api.Fault{Op: "p"}, api.ErrArg},
		{errors.Join(errors.New("x"), a, api.ErrBig), api.ErrNone},
		{Wrap("p", "", errors.Join(errors.New("x"), errors.Join(nil, api.ErrBig), a)), api.ErrBig},
		{errors.Join(errors.New("x"), errors.New("y")), api.ErrArg},
		{Wrap("p", "", says{api.ErrHeld}), api.ErrHeld},
		{heap{api.ErrBig}, api.ErrArg},
	} {
		if n := Num(x.err); n != x.n {
			t.Errorf("%d: %d, not %d", i, n, x.n)
		}
	}
}

func TestOpsAndNames(t *testing.T) { // 1.1
	a := New("read", "/b", api.ErrNone)
	for i, x := range []struct {
		err        error
		ops, names []string
	}{
		{nil, nil, nil},
		{api.ErrDead, nil, nil},
		{errors.New("x"), nil, nil},
		{a, []string{"read"}, []string{"/b"}},
		{Wrap("console", "", Wrap("boot", "a", a)), []string{"console", "boot", "read"}, []string{"", "a", "/b"}},
		{Wrap("p", "q", errors.New("x")), []string{"p"}, []string{"q"}},
		{Wrap("c", "d", fmt.Errorf("y: %w", a)), []string{"c", "read"}, []string{"d", "/b"}},
		{fmt.Errorf("z: %w", fmt.Errorf("y: %w", a)), []string{"read"}, []string{"/b"}},
		{New("", "", api.ErrBig), []string{""}, []string{""}},
		{errors.Join(a, a), nil, nil}, // errors.Unwrap does not go on below these
		{Wrap("c", "d", errors.Join(a, a)), []string{"c"}, []string{"d"}},
	} {
		if ops, names := Ops(x.err), Names(x.err); !slices.Equal(ops, x.ops) || !slices.Equal(names, x.names) {
			t.Errorf("%d: %q %q", i, ops, names)
		}
		if n := Depth(x.err); n != len(x.ops) {
			t.Errorf("%d: depth %d", i, n)
		}
	}
}

func TestAtMostAHundred(t *testing.T) { // 1.1
	for _, n := range []int{0, 1, 99, 100, 101, 5000} {
		err := chain(n)
		ops, names := Ops(err), Names(err)
		if len(ops) != min(n, 100) || len(names) != len(ops) {
			t.Fatalf("%d: %d Ops, %d Names", n, len(ops), len(names))
		}
		for i := range ops {
			if s := fmt.Sprint(n - 1 - i); names[i] != s || ops[i] != "op"+s {
				t.Fatalf("%d: the %dth is %q %q", n, i, ops[i], names[i])
			}
		}
		if d := Depth(err); n <= 100 && d != n {
			t.Errorf("%d: depth %d", n, d)
		}
		if s := Text(err); strings.Count(s, ": ") != min(n, 100) || !strings.HasSuffix(s, "error 3") {
			t.Errorf("%d: text of %d bytes", n, len(s))
		}
	}
	err := chain(3)
	for range 1000 { // links that are no Faults do not count
		err = fmt.Errorf("%w", err)
	}
	if len(Ops(err)) != 3 || len(Names(err)) != 3 || Depth(err) != 3 {
		t.Error(len(Ops(err)), len(Names(err)), Depth(err))
	}
}

func TestText(t *testing.T) { // 1.1 and the chapter's example
	a := New("read", "/b", api.ErrNone)
	for i, x := range []struct {
		err  error
		text string
	}{
		{nil, ""},
		{Wrap("boot", "a", a), "boot a: read /b: error 11"},
		{Wrap("console", "", Wrap("boot", "a", a)), "console: boot a: read /b: error 11"},
		{api.ErrDead, "error 50"},
		{api.OK, "error 0"},
		{errors.New("x"), "error 1"},
		{Wrap("p", "q", errors.New("x")), "p q: error 1"},
		{New("", "", api.ErrBig), ": error 5"},
		{New("", "n", api.ErrBig), " n: error 5"},
		{New("a: ", " b", -2), "a:   b: error -2"},
		{fmt.Errorf("y: %w", a), "read /b: error 11"},
		{errors.Join(a, api.ErrBig), "error 11"},
	} {
		if s := Text(x.err); s != x.text {
			t.Errorf("%d: %q, not %q", i, s, x.text)
		}
	}
}

func TestAsked(t *testing.T) { // 1.2
	numbers := []api.Errno{api.ErrArg, api.ErrLong, api.ErrForm, api.ErrNone, api.ErrDead, api.ErrMany}
	for _, n := range numbers {
		err := New("in", "x", n)
		for i := range 4 {
			out := fmt.Sprint("out", i)
			err = Wrap(out, "y", err)
			for _, m := range numbers {
				if errors.Is(err, m) != (Num(err) == m) || (m == n) != errors.Is(err, m) {
					t.Errorf("%d: Is %d: %v", n, m, errors.Is(err, m))
				}
			}
			var f *api.Fault
			if !errors.As(err, &f) || error(f) != err || f.Op != out {
				t.Errorf("%d: As finds %v", n, f)
			}
		}
	}
}

func TestEndless(t *testing.T) { // 1.1, 1.3: Faults that lead back to themselves
	for i, x := range []struct {
		err   error
		depth int
	}{
		{ring(), 100},
		{plain{ring()}, 100},
		{Wrap("a", "b", ring()), 100},
		{plain{spinFault(7)}, 100},
		{ringJoined(), 1},
		{ringList(), 0},
		{Wrap("a", "b", ringList()), 1},
	} {
		if len(Ops(x.err)) != x.depth || len(Names(x.err)) != x.depth || Depth(x.err) != x.depth {
			t.Errorf("%d: %d, not %d", i, Depth(x.err), x.depth)
		}
		if n := Num(x.err); n != api.ErrArg {
			t.Errorf("%d: number %d", i, n)
		}
		if s := Text(x.err); strings.Count(s, ": ") != x.depth || !strings.HasSuffix(s, "error 1") {
			t.Errorf("%d: %q", i, s)
		}
	}
}

func TestEndlessForeign(t *testing.T) { // 1.3: a walk through one of these takes seconds, so each is gone through a few times only
	for i, x := range []error{loop{}, spin(1000), grows(0), brood{}} {
		t.Run(fmt.Sprint(i), func(t *testing.T) {
			t.Parallel()
			err := Wrap("a", "b", plain{Wrap("c", "", x)})
			if s := Text(err); s != "a b: c: error 1" {
				t.Error(s)
			}
			if n := Depth(err); n != 2 {
				t.Error(n)
			}
		})
	}
}

func TestNoPanic(t *testing.T) { // 1.3
	for i, x := range []struct {
		err  error
		text string
	}{
		{(*api.Fault)(nil), "error 1"},
		{Wrap("a", "b", (*api.Fault)(nil)), "a b: error 1"},
		{&api.Fault{}, ": error 1"},
		{bites{}, "error 1"},
		{Wrap("a", "b", Wrap("c", "", bites{})), "a b: c: error 1"},
		{bitesMany{}, "error 1"},
		{Wrap("a", "b", errors.Join(bitesMany{})), "a b: error 1"},
		{errors.Join(bites{}, bites{}), "error 1"},
		{Wrap("a", "b", heap{nil}), "a b: error 1"},
		{struct{ error }{}, "error 1"},
	} {
		if s := Text(x.err); s != x.text {
			t.Errorf("%d: %q, not %q", i, s, x.text)
		}
		if len(Ops(x.err)) != Depth(x.err) || len(Names(x.err)) != Depth(x.err) {
			t.Errorf("%d: %q %q, depth %d", i, Ops(x.err), Names(x.err), Depth(x.err))
		}
	}
}

func TestDeep(t *testing.T) { // 1.1, 1.2: the number is found however much lies above it
	layers := []func(error) error{
		func(e error) error { return Wrap("o", "", e) },
		func(e error) error { return plain{e} },
		func(e error) error { return &link{e} },
		func(e error) error { return joins{e} },
		func(e error) error { return errors.Join(e) },
		func(e error) error { return Wrap("o", "", errors.Join(errors.New("x"), e)) },
	}
	for i, over := range layers {
		t.Run(fmt.Sprint(i), func(t *testing.T) {
			err, have := error(api.ErrFull), 0
			for _, n := range []int{1 << 20, 3 << 20} { // errors.As has no room for joined errors so deep
				for ; have < n; have++ {
					err = over(err)
				}
				if s := Text(err); !strings.HasSuffix(s, "error 15") {
					t.Errorf("%d layers: %q", n, s)
				}
			}
		})
	}
}

func TestDeepDepth(t *testing.T) { // a chain that ends is counted whole
	err := New("o", "", api.ErrFull)
	for range 1<<21 - 1 {
		err = Wrap("o", "", err)
	}
	if n := Depth(err); n != 1<<21 {
		t.Error(n)
	}
	if len(Ops(err)) != 100 || len(Names(err)) != 100 {
		t.Error(len(Ops(err)), len(Names(err)))
	}
}

func TestFoundAhead(t *testing.T) { // 1.1: what errors.As comes to first
	pair := joins{errors.New("x"), api.ErrBig}
	twice := error(errors.Join(errors.New("x")))
	for range 100 { // each of the last ones would be come to 2^100 times
		twice = errors.Join(twice, twice)
	}
	for i, x := range []struct {
		err error
		n   api.Errno
	}{
		{tells{says{api.ErrHeld}, api.ErrBig}, api.ErrHeld},
		{Wrap("a", "", tells{says{api.ErrHeld}, loop{}}), api.ErrHeld},
		{tellsMany{says{api.ErrHeld}, joins{api.ErrBig}}, api.ErrHeld},
		{joins{tells{says{api.ErrHeld}, nil}, api.ErrBig}, api.ErrHeld},
		{joins{bites{}, api.ErrBig}, api.ErrBig},
		{joins{pair[:1], pair}, api.ErrBig},
		{joins{nil, Wrap("a", "", joins{}), joins{plain{api.ErrDir}, api.ErrNone}, api.ErrBig}, api.ErrDir},
		{joins{ring(), spinFault(3), ringList(), api.ErrBig}, api.ErrBig},
		{errors.Join(twice, api.ErrBig), api.ErrBig},
		{twice, api.ErrArg},
	} {
		if n := Num(x.err); n != x.n {
			t.Errorf("%d: %d, not %d", i, n, x.n)
		}
	}
}

func TestAnswersAreNew(t *testing.T) { // 1.1: an answer shares no memory with another one
	err := chain(3)
	ops, names := Ops(err), Names(err)
	ops[0], names[0] = "x", "x"
	if Ops(err)[0] != "op2" || Names(err)[0] != "2" {
		t.Error(Ops(err), Names(err))
	}
}
