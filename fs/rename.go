package fs

import (
	"errors"
	"slices"

	"credenza/api"
	"credenza/dir"
	"credenza/name"
)

// spot is a name in a directory, whether something has it or not.
type spot struct {
	up   []string
	base string
	d    *dir.Dir
}

// rename makes a be b.
func (f *FS) rename(a, b string) error {
	from, ok := name.Split(a)
	to, good := name.Split(b)
	switch {
	case !ok || !good:
		return api.ErrName
	case len(from) == 0 || len(to) == 0:
		return api.ErrArg
	}
	var gone node
	err := f.step(func() (err error) {
		gone, err = f.move(a, b)
		return err
	})
	if err != nil {
		return err
	}
	f.lose(gone)
	return nil
}

// move makes a be b, and tells what was b, if something was.
func (f *FS) move(a, b string) (gone node, err error) {
	from, err := f.spot(a)
	if err != nil {
		return node{}, err
	}
	x, err := f.child(from.d, from.base)
	switch {
	case err != nil:
		return node{}, err
	case a == b:
		return node{}, nil
	case name.Within(b, a):
		return node{}, api.ErrLoop
	}
	if err := f.fits(x, b); err != nil {
		return node{}, err
	}
	to, err := f.spot(b)
	if err != nil {
		return node{}, err
	}
	gone, err = f.child(to.d, to.base)
	switch {
	case errors.Is(err, api.ErrNone):
		return node{}, f.enter(x, from, to)
	case err != nil:
		return node{}, err
	}
	return gone, f.replace(x, gone, from, to)
}

// spot is where path has its name.
func (f *FS) spot(path string) (spot, error) {
	up, base, err := apart(path, api.ErrArg)
	if err != nil {
		return spot{}, err
	}
	d, err := f.dirAt(up)
	if err != nil {
		return spot{}, err
	}
	return spot{up: up, base: base, d: d}, nil
}

// fits tells ErrName, if something in x would have too many names when x is at path.
func (f *FS) fits(x node, path string) error {
	names, _ := name.Split(path)
	levels, err := f.levels(x)
	switch {
	case err != nil:
		return err
	case len(names)+len(levels)-1 > api.MaxDepth:
		return api.ErrName
	}
	return nil
}

// enter makes x, which is at from, be at to, where nothing is. In its own directory it needs no room.
func (f *FS) enter(x node, from, to spot) error {
	if slices.Equal(from.up, to.up) {
		return from.d.Turn(from.base, to.base)
	}
	need, err := widen(to.d)
	if err != nil {
		return err
	}
	if err := f.may(need, false); err != nil {
		return err
	}
	return carry(x, from, to)
}

// replace makes the file x, which is at from, be at to, where the file y is. It needs no room: x's name has that of y's.
func (f *FS) replace(x, y node, from, to spot) error {
	switch {
	case x.kind == directory:
		return api.ErrExists
	case y.kind == directory:
		return api.ErrDir
	}
	if err := f.drop(to.d, to.base, y); err != nil {
		return err
	}
	return carry(x, from, to)
}

// carry takes x out of the directory where it is, and into the one where it is to be.
func carry(x node, from, to spot) error {
	if err := from.d.Drop(from.base); err != nil {
		return err
	}
	return to.d.Put(to.base, x.id)
}
