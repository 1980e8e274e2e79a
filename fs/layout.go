package fs

import (
	"bytes"

	"credenza/alloc"
	"credenza/api"
	"credenza/budget"
	"credenza/cache"
	"credenza/disk"
	"credenza/inode"
	"credenza/journal"
)

// A disk has the head, the journal's blocks, the bits that say which blocks are taken, the inodes, and then the data. For the head and the journal budget leaves 96 blocks; a journal for groups of most has 95.
const (
	headAt    = 0
	journalAt = 1
	most      = 87
)

// mostReserve is how many blocks may be kept back, and leastRest how many more there must be for data.
const (
	mostReserve = 64
	leastRest   = 8
)

// A head is the mark, how many inodes there are, and the reserve, a byte each; noughts up to the end.
const (
	mark        = "credenza"
	inodesByte  = len(mark)
	reserveByte = inodesByte + 1
)

// format lays an empty tree on d. The head goes first and comes last, so that a tree of old is none from the first write on, and the new one is none until it is whole.
func format(d *disk.Disk, inodes, reserve int) (*FS, error) {
	if d == nil {
		return nil, api.ErrArg
	}
	data, ok := laidOut(d, inodes, reserve)
	if !ok {
		return nil, api.ErrArg
	}
	for i := range d.Blocks() - data {
		if err := d.Write(i, make([]byte, api.Block)); err != nil {
			return nil, err
		}
	}
	f, err := mount(d, inodes, reserve)
	if err != nil {
		return nil, err
	}
	if err := f.plant(); err != nil {
		return nil, err
	}
	if err := d.Write(headAt, head(inodes, reserve)); err != nil {
		return nil, err
	}
	return f, nil
}

// plant makes the root.
func (f *FS) plant() error {
	return f.step(func() error {
		_, err := f.t.Make(directory)
		return err
	})
}

// open is the tree on d, once the files are gone that had no name any more: only who held them could reach them.
func open(d *disk.Disk) (*FS, error) {
	if d == nil {
		return nil, api.ErrForm
	}
	b, err := d.Read(headAt)
	if err != nil {
		return nil, err
	}
	inodes, reserve := int(b[inodesByte]), int(b[reserveByte])
	if _, ok := laidOut(d, inodes, reserve); !ok || !bytes.Equal(b, head(inodes, reserve)) {
		return nil, api.ErrForm
	}
	f, err := mount(d, inodes, reserve)
	if err != nil {
		return nil, err
	}
	if err := f.sweep(); err != nil {
		return nil, err
	}
	return f, nil
}

// sweep takes the files away that have no name, each by a step of its own: all together may be more than a group takes.
func (f *FS) sweep() error {
	l, err := f.nameless()
	if err != nil {
		return err
	}
	for _, id := range l {
		if err := f.step(func() error { return f.t.Free(id) }); err != nil {
			return err
		}
	}
	return nil
}

// mount is the tree on d of so many inodes, once the rest is done of a step that was under way.
func mount(d *disk.Disk, inodes, reserve int) (*FS, error) {
	data, _ := laidOut(d, inodes, reserve)
	j, err := journal.Open(d, journalAt, most)
	if err != nil {
		return nil, err
	}
	c, err := cache.New(j, d.Blocks())
	if err != nil {
		return nil, err
	}
	from := d.Blocks() - data
	m, err := alloc.New(c, journalAt+journal.Need(most), from, data)
	if err != nil {
		return nil, err
	}
	t, err := inode.New(c, m, from-inodes, inodes)
	if err != nil {
		return nil, err
	}
	return &FS{c: c, m: m, t: t, inodes: inodes, reserve: reserve, data: data, held: map[int]holding{}}, nil
}

// laidOut is how many blocks of d are for data; false, if there can be no tree of so many inodes and such a reserve.
func laidOut(d *disk.Disk, inodes, reserve int) (data int, ok bool) {
	data, ok = budget.Layout(d.Blocks(), inodes)
	if !ok || reserve < 0 || reserve > min(mostReserve, data-leastRest) {
		return 0, false
	}
	return data, true
}

// head is the block by which a tree is known.
func head(inodes, reserve int) []byte {
	b := make([]byte, api.Block)
	copy(b, mark)
	b[inodesByte], b[reserveByte] = byte(inodes), byte(reserve)
	return b
}
