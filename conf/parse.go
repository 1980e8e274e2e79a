package conf

import (
	"errors"
	"strconv"
	"strings"

	"credenza/api"
	"credenza/fault"
)

// long is how many bytes a text may have that is read.
const long = 2000

// wrong is the error of a line, by its number, from 1 on; 0 is the end, where something is wanting.
type wrong int

// Error tells what is wrong; where, the Fault around it tells.
func (w wrong) Error() string { return w.Unwrap().Error() }

// Unwrap is why.
func (w wrong) Unwrap() error { return api.ErrEntry }

// place is where err was found: the number of a line; empty, if it is not of a line.
func place(err error) string {
	var w wrong
	if errors.As(err, &w) {
		return strconv.Itoa(int(w))
	}
	return ""
}

// Parse reads what s says.
func Parse(s string) (api.Entry, error) {
	e, err := read(s)
	if err != nil {
		return api.Entry{}, fault.Wrap(op, place(err), err)
	}
	return e, nil
}

// read is the entry that s tells.
func read(s string) (api.Entry, error) {
	var e api.Entry
	if len(s) > long {
		return e, api.ErrLong
	}
	for i, line := range strings.Split(s, "\n") {
		if !take(&e, line) {
			return e, wrong(i + 1)
		}
	}
	if e.Version == "" || e.Kernel.Name == "" {
		return e, wrong(0)
	}
	return e, nil
}

// take lays into e what a line says; false, if it may not say so. An extra has a place of its own, and is read as a
// kernel is: it falls through to it.
func take(e *api.Entry, line string) bool {
	word, text, _ := strings.Cut(line, " ")
	blob := &e.Kernel
	switch {
	case line == "":
		fallthrough
	case line[0] == '#':
		return true
	case word == extra && len(e.Extra) < api.MaxExtra:
		e.Extra = append(e.Extra, api.Blob{})
		blob = &e.Extra[len(e.Extra)-1]
		fallthrough
	case word == kernel:
		return setBlob(blob, text)
	case word == version:
		return set(&e.Version, text) && versionOk(text)
	case word == options:
		return set(&e.Options, text) && optionsOk(text)
	}
	return false
}

// setBlob lays the two words of text into b; false, if something stands there, or if they are no blob.
func setBlob(b *api.Blob, text string) bool {
	name, sum, _ := strings.Cut(text, " ")
	return set(&b.Name, name) && set(&b.Sum, sum) && blobOk(*b)
}

// set lays text into s; false, if something stands there, or if there is nothing to lay.
func set(s *string, text string) bool {
	if *s != "" || text == "" {
		return false
	}
	// A piece of what was read would keep the whole of it.
	*s = strings.Clone(text)
	return true
}
