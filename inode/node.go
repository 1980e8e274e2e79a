package inode

import (
	"errors"
	"slices"

	"credenza/api"
	"credenza/budget"
)

// The kinds of inodes.
const (
	free = iota
	file
	directory
)

// An inode's block has its kind, its size and the numbers of its first blocks; noughts up to the end. If it has more than direct blocks (as budget reckons them), the block at that place of its list holds no bytes, but the numbers of those behind it.
const (
	direct   = 8
	inRecord = direct + 1
	sizeAt   = 1
	listAt   = 3
	word     = 4 // the bytes of a number; the numbers in a block of numbers, 24 at most, fit so
)

// node is what an inode is. Its blocks are in the order in which they were taken, that of its bytes.
type node struct {
	kind, size int
	list       []int
}

// piece is some bytes of a block.
type piece struct{ no, from, to int }

// pieces are where n bytes of x from at on lie: none, if n is below 1.
func (x node) pieces(at, n int) []piece {
	var l []piece
	for n > 0 {
		i := at / api.Block
		if i >= direct {
			i++
		}
		from := at % api.Block
		to := min(from+n, api.Block)
		l = append(l, piece{no: x.list[i], from: from, to: to})
		at += to - from
		n -= to - from
	}
	return l
}

// home is the number of inode id's block. (Where that wraps round, the cache has no such block either.)
func (t *Table) home(id int) int {
	return t.at + id - 1
}

// record is what inode id's block says.
func (t *Table) record(id int) (node, error) {
	if id < 1 || id > t.n {
		return node{}, api.ErrArg
	}
	b, err := t.c.Read(t.home(id))
	if err != nil {
		return node{}, err
	}
	x, ok := parse(b)
	if !ok {
		return node{}, api.ErrForm
	}
	return x, nil
}

// used is what the block of inode id says, which must not be free.
func (t *Table) used(id int) (node, error) {
	x, err := t.record(id)
	switch {
	case err != nil:
		return node{}, err
	case x.kind == free:
		return node{}, api.ErrNone
	}
	return x, nil
}

// load is inode id, which must not be free, with all its blocks.
func (t *Table) load(id int) (node, error) {
	x, err := t.used(id)
	if err != nil {
		return node{}, err
	}
	// The block of numbers is one of these: it is not read ahead of knowing that it is a block at all.
	if err := t.had(x.list); err != nil {
		return node{}, err
	}
	if len(x.list) < inRecord {
		return x, nil
	}
	b, err := t.c.Read(x.list[direct])
	if err != nil {
		return node{}, err
	}
	l, behind := numbers(b, budget.Blocks(x.size)-inRecord)
	if !noughts(behind) {
		return node{}, api.ErrForm
	}
	x.list = append(x.list, l...)
	if err := t.had(x.list); err != nil {
		return node{}, err
	}
	return x, nil
}

// had looks whether blocks can be an inode's: such as are taken, once each. Whoever wrote to others would write into what is not his.
func (t *Table) had(l []int) error {
	for i, no := range l {
		taken, err := t.m.Taken(no)
		switch {
		case errors.Is(err, api.ErrArg):
			return api.ErrForm
		case err != nil:
			return err
		case !taken || slices.Contains(l[:i], no):
			return api.ErrForm
		}
	}
	return nil
}

// parse is what an inode's block says, with the first numbers alone; false, if its form is wrong. A kind that may have bytes falls through to the one that has none: behind what the block says of them it is as a free one's, noughts.
func parse(b []byte) (node, bool) {
	x, behind := node{kind: int(b[0])}, b[sizeAt:]
	switch x.kind {
	case directory, file:
		x.size = int(b[sizeAt])<<8 | int(b[sizeAt+1])
		if x.size > api.MaxFile {
			return node{}, false
		}
		x.list, behind = numbers(b[listAt:], min(budget.Blocks(x.size), inRecord))
		fallthrough
	case free:
		return x, noughts(behind)
	}
	return node{}, false
}

// written is the block of an inode.
func written(x node) []byte {
	b := make([]byte, api.Block)
	b[0], b[sizeAt], b[sizeAt+1] = byte(x.kind), byte(x.size>>8), byte(x.size)
	put(b[listAt:], x.list[:min(len(x.list), inRecord)])
	return b
}

// rest is the block of numbers of an inode that has one.
func rest(x node) []byte {
	b := make([]byte, api.Block)
	put(b, x.list[inRecord:])
	return b
}

// put lays numbers into b, the highest byte of each first. None is lost: of a block whose number has more bytes the cache has told already that it is not there.
func put(b []byte, l []int) {
	for i, no := range l {
		for k := range word {
			b[i*word+k] = byte(no >> (8 * (word - 1 - k)))
		}
	}
}

// numbers are the first n numbers of b, and what stands behind them.
func numbers(b []byte, n int) (l []int, behind []byte) {
	for range n {
		no := 0
		for _, digit := range b[:word] {
			no = no<<8 | int(digit)
		}
		l = append(l, no)
		b = b[word:]
	}
	return l, b
}

// noughts says whether b is nothing but noughts.
func noughts(b []byte) bool {
	return !slices.ContainsFunc(b, func(c byte) bool { return c != 0 })
}
