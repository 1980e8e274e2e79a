package dump

import (
	"strings"

	"credenza/api"
	"credenza/fs"
)

// most is how many items a tree can have: each has an inode, of which there are at most 200, and the root has one too.
const most = 199

// walk goes through a tree and gathers what it comes by.
type walk struct {
	f     *fs.FS
	items []api.Item
}

// below goes through what is in the directory at path.
func (w *walk) below(path string) error {
	names, err := w.f.List(path)
	if err != nil {
		return err
	}
	for _, s := range names {
		if err := w.at(strings.TrimSuffix(path, "/") + "/" + s); err != nil {
			return err
		}
	}
	return nil
}

// at gathers what stands at path, and goes through what is in it. Directories of a spoilt disk may have one another, and then have more paths than anyone can wait for; more items than inodes are no tree.
func (w *walk) at(path string) error {
	if len(w.items) == most {
		return api.ErrForm
	}
	x, err := w.f.Stat(path)
	switch {
	case err != nil:
		return err
	case x.Dir:
		w.items = append(w.items, api.Item{Path: path, Dir: true})
		return w.below(path)
	}
	b, err := w.f.Get(path)
	if err != nil {
		return err
	}
	w.items = append(w.items, api.Item{Path: path, Data: b})
	return nil
}
