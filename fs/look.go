package fs

import (
	"credenza/api"
	"credenza/dir"
)

// get is what the file at path has.
func (f *FS) get(path string) ([]byte, error) {
	var b []byte
	err := f.at(path, func(x node) (err error) {
		if x.kind == directory {
			return api.ErrDir
		}
		b, err = f.t.Read(x.id, 0, api.MaxFile)
		return err
	})
	return b, err
}

// list are the names in the directory at path.
func (f *FS) list(path string) ([]string, error) {
	var l []string
	err := f.at(path, func(x node) error {
		d, err := dir.Of(f.t, x.id)
		if err != nil {
			return err
		}
		l, err = d.List()
		return err
	})
	return l, err
}

// stat is what is told of path.
func (f *FS) stat(path string) (api.Info, error) {
	var info api.Info
	err := f.at(path, func(x node) error {
		n, err := f.length(x)
		if err != nil {
			return err
		}
		info = api.Info{Dir: x.kind == directory, Size: n, Held: f.held[x.id].times}
		return nil
	})
	return info, err
}

// length is how many bytes a file has, and how many names a directory.
func (f *FS) length(x node) (int, error) {
	if x.kind == file {
		return f.t.Size(x.id)
	}
	d, err := dir.Of(f.t, x.id)
	if err != nil {
		return 0, err
	}
	return d.Len()
}

// room is how much is left.
func (f *FS) room() (api.Room, error) {
	var r api.Room
	err := f.step(func() error {
		blocks, err := f.m.Free()
		if err != nil {
			return err
		}
		left, err := f.t.Left()
		if err != nil {
			return err
		}
		r = api.Room{Free: blocks, Reserve: f.reserve, Inodes: left, Data: f.data}
		return nil
	})
	return r, err
}
