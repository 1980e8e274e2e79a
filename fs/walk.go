package fs

import (
	"errors"

	"credenza/api"
	"credenza/dir"
	"credenza/name"
)

// The kinds of inodes.
const (
	free = iota
	file
	directory
)

// root is the inode of the root.
const root = 1

// node is an inode that is not free.
type node struct{ id, kind int }

// at does something with what stands at path, as a step. A path that is none is told ahead of all that the disk may tell.
func (f *FS) at(path string, do func(x node) error) error {
	names, ok := name.Split(path)
	if !ok {
		return api.ErrName
	}
	return f.step(func() error {
		x, err := f.walk(names)
		if err != nil {
			return err
		}
		return do(x)
	})
}

// walk is what stands at the path of these names.
func (f *FS) walk(names []string) (node, error) {
	x := node{id: root, kind: directory}
	for _, s := range names {
		d, err := dir.Of(f.t, x.id)
		if err != nil {
			return node{}, err
		}
		if x, err = f.child(d, s); err != nil {
			return node{}, err
		}
	}
	return x, nil
}

// dirAt is the directory at the path of these names.
func (f *FS) dirAt(names []string) (*dir.Dir, error) {
	x, err := f.walk(names)
	if err != nil {
		return nil, err
	}
	return dir.Of(f.t, x.id)
}

// child is what has the name s in d. A name of what is no inode, or a free one, is no name that a step made.
func (f *FS) child(d *dir.Dir, s string) (node, error) {
	id, err := d.Find(s)
	if err != nil {
		return node{}, err
	}
	kind, err := f.t.Kind(id)
	switch {
	case errors.Is(err, api.ErrArg):
		return node{}, api.ErrForm
	case err != nil:
		return node{}, err
	case kind == free:
		return node{}, api.ErrForm
	}
	return node{id: id, kind: kind}, nil
}

// children are what has a name in the directory x; none of a file.
func (f *FS) children(x node) ([]node, error) {
	if x.kind != directory {
		return nil, nil
	}
	d, err := dir.Of(f.t, x.id)
	if err != nil {
		return nil, err
	}
	names, err := d.List()
	if err != nil {
		return nil, err
	}
	var l []node
	for _, s := range names {
		y, err := f.child(d, s)
		if err != nil {
			return nil, err
		}
		l = append(l, y)
	}
	return l, nil
}

// levels are x, what is in it, what is in that, and so on. An inode that is there twice is ErrForm: such a thing is no tree, and need not have an end.
func (f *FS) levels(x node) ([][]node, error) {
	seen := make([]bool, f.inodes+1)
	seen[x.id] = true
	var all [][]node
	for level := []node{x}; len(level) > 0; {
		all = append(all, level)
		var below []node
		for _, y := range level {
			l, err := f.children(y)
			switch {
			case err != nil:
				return nil, err
			case again(seen, l):
				return nil, api.ErrForm
			}
			below = append(below, l...)
		}
		level = below
	}
	return all, nil
}

// again notes the inodes of l as seen, and says whether one of them was already.
func again(seen []bool, l []node) bool {
	for _, x := range l {
		if seen[x.id] {
			return true
		}
		seen[x.id] = true
	}
	return false
}
