package fs

import "credenza/api"

// holding is how often a file is held, and whether it has lost its name since: then it is gone when it is loose. It is kept in memory alone, so that nothing is held behind a loss of power.
type holding struct {
	times    int
	nameless bool
}

// holds says whether inode id is held.
func (f *FS) holds(id int) bool {
	return f.held[id].times > 0
}

// lose notes that x, if it is held, has no name any more.
func (f *FS) lose(x node) {
	if h, ok := f.held[x.id]; ok {
		h.nameless = true
		f.held[x.id] = h
	}
}

// hold holds the file at path once more.
func (f *FS) hold(path string) (int, error) {
	id := 0
	err := f.at(path, func(x node) error {
		if x.kind == directory {
			return api.ErrDir
		}
		id = x.id
		return nil
	})
	if err != nil {
		return 0, err
	}
	h := f.held[id]
	h.times++
	f.held[id] = h
	return id, nil
}

// loose holds inode id once less.
func (f *FS) loose(id int) error {
	if !f.holds(id) {
		return api.ErrHeld
	}
	h := f.held[id]
	h.times--
	err := f.step(func() error {
		if h.times == 0 && h.nameless {
			return f.t.Free(id)
		}
		return nil
	})
	switch {
	case err != nil:
		return err
	case h.times == 0:
		delete(f.held, id)
	default:
		f.held[id] = h
	}
	return nil
}

// read is n bytes of inode id from at on, or as many as there are.
func (f *FS) read(id, at, n int) ([]byte, error) {
	switch {
	case !f.holds(id):
		return nil, api.ErrHeld
	case at < 0 || n < 0:
		return nil, api.ErrArg
	}
	var b []byte
	err := f.step(func() (err error) {
		b, err = f.t.Read(id, at, n)
		return err
	})
	return b, err
}

// write lays b into inode id from at on.
func (f *FS) write(id, at int, b []byte) error {
	switch {
	case !f.holds(id):
		return api.ErrHeld
	case at < 0:
		return api.ErrArg
	case at > api.MaxFile-len(b):
		return api.ErrBig
	}
	return f.step(func() error {
		end := 0 // of no bytes nothing is done, so that it needs no room either
		if len(b) > 0 {
			end = at + len(b)
		}
		if err := f.resize(id, end, false); err != nil {
			return err
		}
		return f.t.Write(id, at, b)
	})
}

// cut makes inode id have just size bytes.
func (f *FS) cut(id, size int) error {
	switch {
	case !f.holds(id):
		return api.ErrHeld
	case size < 0:
		return api.ErrArg
	case size > api.MaxFile:
		return api.ErrBig
	}
	return f.step(func() error {
		if err := f.resize(id, size, false); err != nil {
			return err
		}
		return f.t.Cut(id, size)
	})
}

// size is how many bytes inode id has.
func (f *FS) size(id int) (int, error) {
	if !f.holds(id) {
		return 0, api.ErrHeld
	}
	n := 0
	err := f.step(func() (err error) {
		n, err = f.t.Size(id)
		return err
	})
	return n, err
}
