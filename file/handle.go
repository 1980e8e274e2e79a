package file

import (
	"errors"
	"slices"

	"credenza/api"
)

// handle is a held file, and how far one is in it. One that is not open is all zero.
type handle struct {
	mode, id, at int
	may          rights
}

// rights are what a handle may do beyond reading.
type rights struct{ writes, makes, appends bool }

// isOpen says whether a handle is open.
func (o handle) isOpen() bool {
	return o != handle{}
}

// rightsOf is what a mode gives; false of what is no mode. Each mode may what the ones below it may, and one thing more.
func rightsOf(mode int) (r rights, ok bool) {
	switch mode {
	case api.MAppend:
		r.appends = true
		fallthrough
	case api.MMake:
		r.makes = true
		fallthrough
	case api.MWrite:
		r.writes = true
		fallthrough
	case api.MRead:
		return r, true
	}
	return rights{}, false
}

// begin opens the file at path by the least handle that is not open.
func (x *Files) begin(path string, mode int) (int, error) {
	may, ok := rightsOf(mode)
	if !ok {
		return 0, api.ErrArg
	}
	i := slices.Index(x.open[:], handle{})
	if i < 0 {
		return 0, api.ErrMany
	}
	if may.makes {
		if err := x.make(path); err != nil {
			return 0, err
		}
	}
	id, err := x.f.Hold(path)
	if err != nil {
		return 0, err
	}
	x.open[i] = handle{mode: mode, id: id, may: may}
	return i + 1, nil
}

// make makes the file at path, if nothing is there. What else may be there than a file, Hold tells.
func (x *Files) make(path string) error {
	err := x.f.Make(path)
	if errors.Is(err, api.ErrExists) {
		return nil
	}
	return err
}

// get is h, if it is open.
func (x *Files) get(h int) (*handle, error) {
	if h < 1 || h > len(x.open) || !x.open[h-1].isOpen() {
		return nil, api.ErrHandle
	}
	return &x.open[h-1], nil
}

// writer is h, if it is open and may write.
func (x *Files) writer(h int) (*handle, error) {
	o, err := x.get(h)
	switch {
	case err != nil:
		return nil, err
	case !o.may.writes:
		return nil, api.ErrState
	}
	return o, nil
}

// read is n bytes from the place of h on, or as many as there are.
func (x *Files) read(h, n int) ([]byte, error) {
	o, err := x.get(h)
	switch {
	case err != nil:
		return nil, err
	case n < 0:
		return nil, api.ErrArg
	}
	b, err := x.f.Read(o.id, o.at, n)
	if err != nil {
		return nil, err
	}
	o.at += len(b)
	return b, nil
}

// write lays b into the file of h.
func (x *Files) write(h int, b []byte) error {
	o, err := x.writer(h)
	if err != nil {
		return err
	}
	at, err := x.target(o)
	if err != nil {
		return err
	}
	if err := x.f.Write(o.id, at, b); err != nil {
		return err
	}
	o.at = at + len(b)
	return nil
}

// target is where the next bytes of a handle go. The end is asked for each time, as another handle may have moved it.
func (x *Files) target(o *handle) (int, error) {
	if o.may.appends {
		return x.f.Size(o.id)
	}
	return o.at, nil
}

// seek makes at the place of h.
func (x *Files) seek(h, at int) error {
	o, err := x.get(h)
	switch {
	case err != nil:
		return err
	case at < 0 || at > api.MaxFile:
		return api.ErrArg
	}
	o.at = at
	return nil
}

// cut makes the file of h have just size bytes.
func (x *Files) cut(h, size int) error {
	o, err := x.writer(h)
	if err != nil {
		return err
	}
	return x.f.Cut(o.id, size)
}

// end makes h be not open. If the file can't be made loose, h stays, as nothing else would know that it is held.
func (x *Files) end(h int) error {
	o, err := x.get(h)
	if err != nil {
		return err
	}
	if err := x.f.Loose(o.id); err != nil {
		return err
	}
	*o = handle{}
	return nil
}

// tell is what is told of h.
func (x *Files) tell(h int) (api.Handle, error) {
	o, err := x.get(h)
	if err != nil {
		return api.Handle{}, err
	}
	size, err := x.f.Size(o.id)
	if err != nil {
		return api.Handle{}, err
	}
	return api.Handle{Mode: o.mode, At: o.at, Size: size}, nil
}
