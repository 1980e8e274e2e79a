package inode

// held is what a block held that was changed in the cache.
type held struct {
	no int
	b  []byte
}

// whole does all that do does, or, if that tells an error, nothing.
func (t *Table) whole(do func() error) error {
	was, err := t.changed()
	if err != nil {
		return err
	}
	if err := do(); err != nil {
		t.restore(was)
		return err
	}
	return nil
}

// changed is what the step has changed so far.
func (t *Table) changed() ([]held, error) {
	var l []held
	for _, no := range t.c.Changed() {
		b, err := t.c.Read(no)
		if err != nil {
			return nil, err
		}
		l = append(l, held{no: no, b: b})
	}
	return l, nil
}

// restore makes the step have changed just what it had. Blocks that came to it are no longer changed only behind a Drop, and to write the others anew the disk is needed; that one lives, or none could have come. On a dead disk none has come, and there is no Drop. So no Write goes wrong here.
func (t *Table) restore(was []held) {
	if len(t.c.Changed()) > len(was) {
		t.c.Drop()
	}
	for _, h := range was {
		t.c.Write(h.no, 0, h.b)
	}
}
