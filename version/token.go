package version

import (
	"strings"

	"credenza/api"
)

// next is the first token of s, as a piece of it, and what stands behind; VEnd, if there is none. A number loses the
// noughts ahead, and what is left of it is a run of one class, as a word is: it falls through to it.
func next(s string) (t api.Token, rest string) {
	s = s[run(s, api.VEnd):]
	if s == "" {
		return api.Token{Kind: api.VEnd}, ""
	}
	t.Kind = class(s[0])
	n := 1
	switch t.Kind {
	case api.VNumber:
		s = strings.TrimLeft(s, "0")
		fallthrough
	case api.VWord:
		n = run(s, t.Kind)
	}
	t.Text = s[:n]
	return t, s[n:]
}

// run is how many bytes of that class s begins with.
func run(s string, kind int) int {
	n := 0
	for n < len(s) && class(s[n]) == kind {
		n++
	}
	return n
}

// class is the kind of tokens that c stands in; of a byte that only parts them VEnd, as no token is of that kind. The
// letters' classes fall through to the one answer that they share.
func class(c byte) int {
	switch {
	case 'a' <= c && c <= 'z':
		fallthrough
	case 'A' <= c && c <= 'Z':
		return api.VWord
	case '0' <= c && c <= '9':
		return api.VNumber
	case c == '~':
		return api.VTilde
	}
	return api.VEnd
}
