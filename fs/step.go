package fs

import (
	"errors"

	"credenza/api"
	"credenza/budget"
	"credenza/dir"
	"credenza/name"
)

// record is how many bytes of a directory a name takes.
const record = 32

// step does all that do does, and it lasts; or, if that tells an error, nothing. (What only reads is a step too, one that changes nothing.)
//
// Once the disk told an error, no step is done any more: the last one may be half laid where it belongs, and what would be written from such reading would part the tree.
func (f *FS) step(do func() error) error {
	if f.dead {
		return api.ErrDead
	}
	err := do()
	if err == nil {
		err = f.c.Flush()
	}
	if err != nil {
		f.c.Drop()
		f.dead = errors.Is(err, api.ErrDead)
	}
	return err
}

// may tells ErrFull, if a step may not take so many blocks: of all that are free, or of those beyond the reserve.
func (f *FS) may(need int, all bool) error {
	blocks, err := f.m.Free()
	switch {
	case err != nil:
		return err
	case !budget.May(blocks, f.reserve, need, all):
		return api.ErrFull
	}
	return nil
}

// widen is how many blocks one more name in d needs; ErrMany, if it can have no more.
func widen(d *dir.Dir) (int, error) {
	n, err := d.Len()
	switch {
	case err != nil:
		return 0, err
	case n >= api.MaxDir:
		return 0, api.ErrMany
	}
	return budget.Grow(record*n, record*n+record), nil
}

// create makes an empty inode of that kind, by the name path.
func (f *FS) create(path string, kind int) error {
	up, base, err := apart(path, api.ErrExists)
	if err != nil {
		return err
	}
	return f.step(func() error {
		d, err := f.dirAt(up)
		if err != nil {
			return err
		}
		_, err = f.child(d, base)
		switch {
		case err == nil:
			return api.ErrExists
		case !errors.Is(err, api.ErrNone):
			return err
		}
		_, err = f.add(d, base, kind, 0, false)
		return err
	})
}

// add makes an empty inode of that kind, by the name base in d, and looks whether there is room for it with size bytes.
func (f *FS) add(d *dir.Dir, base string, kind, size int, all bool) (int, error) {
	need, err := widen(d)
	if err != nil {
		return 0, err
	}
	left, err := f.t.Left()
	switch {
	case err != nil:
		return 0, err
	case left == 0:
		return 0, api.ErrInodes
	}
	if err := f.may(need+budget.Grow(0, size), all); err != nil {
		return 0, err
	}
	id, err := f.t.Make(kind)
	if err != nil {
		return 0, err
	}
	return id, d.Put(base, id)
}

// put makes the file at path have just b; it may take all blocks, or leave the reserve.
func (f *FS) put(path string, b []byte, all bool) error {
	up, base, err := apart(path, api.ErrDir)
	switch {
	case err != nil:
		return err
	case len(b) > api.MaxFile:
		return api.ErrBig
	}
	return f.step(func() error {
		id, err := f.target(up, base, len(b), all)
		if err != nil {
			return err
		}
		if err := f.t.Cut(id, len(b)); err != nil {
			return err
		}
		return f.t.Write(id, 0, b)
	})
}

// target is the file by the name base in the directory up, made if it is not there, once it is known that it may have size bytes.
func (f *FS) target(up []string, base string, size int, all bool) (int, error) {
	d, err := f.dirAt(up)
	if err != nil {
		return 0, err
	}
	x, err := f.child(d, base)
	switch {
	case errors.Is(err, api.ErrNone):
		return f.add(d, base, file, size, all)
	case err != nil:
		return 0, err
	case x.kind == directory:
		return 0, api.ErrDir
	}
	return x.id, f.resize(x.id, size, all)
}

// resize looks whether a file may have size bytes.
func (f *FS) resize(id, size int, all bool) error {
	was, err := f.t.Size(id)
	if err != nil {
		return err
	}
	return f.may(budget.Grow(was, size), all)
}

// remove takes what is at path away.
func (f *FS) remove(path string) error {
	up, base, err := apart(path, api.ErrArg)
	if err != nil {
		return err
	}
	var gone node
	err = f.step(func() error {
		d, err := f.dirAt(up)
		if err != nil {
			return err
		}
		if gone, err = f.child(d, base); err != nil {
			return err
		}
		if err := f.empty(gone); err != nil {
			return err
		}
		return f.drop(d, base, gone)
	})
	if err != nil {
		return err
	}
	f.lose(gone)
	return nil
}

// empty tells ErrNotEmpty of a directory that has names.
func (f *FS) empty(x node) error {
	if x.kind != directory {
		return nil
	}
	d, err := dir.Of(f.t, x.id)
	if err != nil {
		return err
	}
	n, err := d.Len()
	switch {
	case err != nil:
		return err
	case n > 0:
		return api.ErrNotEmpty
	}
	return nil
}

// drop takes x, which has the name base in d, away; only the name, if it is held.
func (f *FS) drop(d *dir.Dir, base string, x node) error {
	if err := d.Drop(base); err != nil {
		return err
	}
	if f.holds(x.id) {
		return nil
	}
	return f.t.Free(x.id)
}

// apart is the names of a path's directory, and its name there; ErrName of what is no path, and top of the root.
func apart(path string, top api.Errno) (up []string, base string, err error) {
	l, ok := name.Split(path)
	switch {
	case !ok:
		return nil, "", api.ErrName
	case len(l) == 0:
		return nil, "", top
	}
	last := len(l) - 1
	return l[:last], l[last], nil
}
