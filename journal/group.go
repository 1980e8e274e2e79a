package journal

import (
	"credenza/api"
	"credenza/sum"
)

// word is how many bytes a number has, and row how many numbers a block.
const (
	word = 8
	row  = api.Block / word
)

// rows is how many blocks n numbers take.
func rows(n int) int {
	return n/row + min(n%row, 1)
}

// room is how many of a Journal's blocks a group of n blocks lies in: its head, the numbers, the bytes.
func room(n int) int {
	return 1 + rows(n) + n
}

// note lays a group into the Journal's blocks, the head last: without it the others mean nothing.
func (j *Journal) note(l []Block) error {
	body := written(l)
	for i := range len(body) / api.Block {
		if err := j.d.Write(j.at+1+i, part(body, i)); err != nil {
			return err
		}
	}
	return j.d.Write(j.at, head(len(l), body))
}

// settle lays the blocks of a group that is noted where they belong, and wipes the head: from then on others may write there.
func (j *Journal) settle(l []Block) error {
	for _, b := range l {
		if err := j.d.Write(b.No, b.Data); err != nil {
			return err
		}
	}
	return j.d.Write(j.at, make([]byte, api.Block))
}

// finish does the rest of a group that is under way, if one is.
func (j *Journal) finish() error {
	l, err := j.underWay()
	if err != nil || len(l) == 0 {
		return err
	}
	return j.settle(l)
}

// underWay is the group that is noted, if one is: the head's digest tells it from whatever else may lie there.
// It is not held against most: a Journal opened here with another most must not leave the group half done.
func (j *Journal) underWay() ([]Block, error) {
	h, err := j.d.Read(j.at)
	if err != nil {
		return nil, err
	}
	count := get(h, 0)
	if count < 1 || count > limit || j.at+room(int(count)) > j.d.Blocks() {
		return nil, nil
	}
	n := int(count)
	body, err := j.span(j.at+1, rows(n)+n)
	if err != nil {
		return nil, err
	}
	l := group(n, body)
	if get(h, 1) != digest(h, body) || !j.takes(l, room(n)) {
		return nil, nil
	}
	return l, nil
}

// span is what n blocks from at on hold.
func (j *Journal) span(at, n int) ([]byte, error) {
	var all []byte
	for i := range n {
		b, err := j.d.Read(at + i)
		if err != nil {
			return nil, err
		}
		all = append(all, b...)
	}
	return all, nil
}

// head is the block that makes a group of n blocks whole.
func head(n int, body []byte) []byte {
	h := make([]byte, api.Block)
	put(h, 0, uint64(n))
	put(h, 1, digest(h, body))
	return h
}

// digest is of a head's count and what stands behind the head.
func digest(h, body []byte) uint64 {
	return sum.Parts(h[:word], body)
}

// written is a group as bytes: the numbers of its blocks, in whole blocks, then what they are to hold.
func written(l []Block) []byte {
	body := make([]byte, rows(len(l))*api.Block)
	for i, b := range l {
		put(body, i, uint64(b.No))
		body = append(body, b.Data...)
	}
	return body
}

// group is the group of n blocks that was written as body.
func group(n int, body []byte) []Block {
	l := make([]Block, n)
	for i := range l {
		l[i] = Block{No: int(get(body, i)), Data: part(body, rows(n)+i)}
	}
	return l
}

// part is block i of b.
func part(b []byte, i int) []byte {
	return b[i*api.Block:][:api.Block]
}

// put lays n into b as its number i, the lowest byte first.
func put(b []byte, i int, n uint64) {
	for k := range word {
		b[i*word+k] = byte(n >> (8 * k))
	}
}

// get is number i of b.
func get(b []byte, i int) uint64 {
	var n uint64
	for k := range word {
		n |= uint64(b[i*word+k]) << (8 * k)
	}
	return n
}
