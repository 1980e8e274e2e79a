package dir

import (
	"slices"

	"credenza/api"
	"credenza/name"
)

// A record has its name's length, the name, noughts up to idAt, and the id, its highest byte first.
const (
	size   = 32
	nameAt = 1
	idAt   = nameAt + api.MaxName
)

// record is a name and its id.
type record struct {
	name string
	id   int
}

// place is where the name s stands in l; below 0, if it does not.
func place(l []record, s string) int {
	return slices.IndexFunc(l, func(r record) bool { return r.name == s })
}

// parse is the records that b is; false, if it is none.
func parse(b []byte) ([]record, bool) {
	if len(b)%size != 0 {
		return nil, false
	}
	var l []record
	for ; len(b) > 0; b = b[size:] {
		r, ok := read(b[:size])
		if !ok || place(l, r.name) >= 0 {
			return nil, false
		}
		l = append(l, r)
	}
	return l, true
}

// read is the record that b, of just so many bytes, is; false, if it is none.
func read(b []byte) (record, bool) {
	end := nameAt + int(b[0])
	if end > idAt {
		return record{}, false
	}
	r := record{name: string(b[nameAt:end])}
	for _, digit := range b[idAt:] {
		r.id = r.id<<8 | int(digit)
	}
	return r, name.Ok(r.name) && noughts(b[end:idAt]) && r.id != 0
}

// written is the bytes of a record. Its id fits into them: it was read from so many, or is at most most.
func written(r record) []byte {
	b := make([]byte, size)
	b[0] = byte(len(r.name))
	copy(b[nameAt:], r.name)
	for i := range size - idAt {
		b[size-1-i] = byte(r.id >> (8 * i))
	}
	return b
}

// noughts says whether b is nothing but noughts.
func noughts(b []byte) bool {
	return !slices.ContainsFunc(b, func(c byte) bool { return c != 0 })
}
