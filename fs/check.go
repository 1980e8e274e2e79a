package fs

import (
	"slices"

	"credenza/api"
)

// check looks whether all is in order.
func (f *FS) check() error {
	l, err := f.nameless()
	switch {
	case err != nil:
		return err
	case slices.ContainsFunc(l, func(id int) bool { return !f.holds(id) }):
		return api.ErrForm
	}
	return nil
}

// nameless are the files without a name; ErrForm, if something else than these is not in order.
func (f *FS) nameless() ([]int, error) {
	var l []int
	err := f.step(func() error {
		named, err := f.named()
		if err != nil {
			return err
		}
		if err := f.covered(); err != nil {
			return err
		}
		l, err = f.beyond(named)
		return err
	})
	return l, err
}

// named says of each inode whether it has a name, or is the root.
func (f *FS) named() ([]bool, error) {
	kind, err := f.t.Kind(root)
	switch {
	case err != nil:
		return nil, err
	case kind != directory:
		return nil, api.ErrForm
	}
	levels, err := f.levels(node{id: root, kind: kind})
	switch {
	case err != nil:
		return nil, err
	case len(levels)-1 > api.MaxDepth: // no path has so many names
		return nil, api.ErrForm
	}
	named := make([]bool, f.inodes+1)
	for _, level := range levels {
		for _, x := range level {
			named[x.id] = true
		}
	}
	return named, nil
}

// beyond are the files among the inodes that are neither free nor named. A directory is never held, so it must be named.
func (f *FS) beyond(named []bool) ([]int, error) {
	var l []int
	for id := 1; id <= f.inodes; id++ {
		kind, err := f.t.Kind(id)
		switch {
		case err != nil:
			return nil, err
		case kind == free || named[id]:
		case kind == directory:
			return nil, api.ErrForm
		default:
			l = append(l, id)
		}
	}
	return l, nil
}

// covered looks whether the blocks that inodes have, as many each as its size needs, are just those that are taken, once each.
func (f *FS) covered() error {
	var had []int
	for id := 1; id <= f.inodes; id++ {
		l, err := f.blocks(id)
		if err != nil {
			return err
		}
		had = append(had, l...)
	}
	slices.Sort(had)
	taken, err := f.m.All()
	switch {
	case err != nil:
		return err
	case !slices.Equal(had, taken):
		return api.ErrForm
	}
	return nil
}

// blocks are the blocks of inode id; none of a free one.
func (f *FS) blocks(id int) ([]int, error) {
	kind, err := f.t.Kind(id)
	if err != nil || kind == free {
		return nil, err
	}
	return f.t.Blocks(id)
}
