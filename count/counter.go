package count

import "credenza/api"

// counter reads what stands behind the `+` of a counter. A sign with no number of tries done behind it falls through to
// the rest: whatever else stands there makes all of it a part of the stem.
func counter(s string) (c api.Count, ok bool) {
	left, s, ok := number(s)
	switch {
	case ok && s == "":
		return api.Count{Has: true, Left: left}, true
	case ok && s[0] == '-':
		done, rest, good := number(s[1:])
		// No try done is told by no number at all, so that each count has one name.
		if good && done != 0 && rest == "" {
			return api.Count{Has: true, Left: left, Done: done}, true
		}
		fallthrough
	default:
		return api.Count{}, false
	}
}

// number takes a number off s; false, if s begins with none. The first of two digits falls through to the second.
func number(s string) (n int, rest string, ok bool) {
	switch digits(s) {
	case 2:
		n = 10 * value(s[0])
		s = s[1:]
		fallthrough
	case 1:
		return n + value(s[0]), s[1:], true
	}
	return 0, "", false
}

// digits is how many digits the number that s begins with has: at most two. Behind a nought there is no second one, or
// one number could be told in two ways.
func digits(s string) int {
	switch {
	case s == "" || !digit(s[0]):
		return 0
	case s[0] == '0' || len(s) == 1 || !digit(s[1]):
		return 1
	}
	return 2
}

// digit says whether c is a digit.
func digit(c byte) bool {
	return '0' <= c && c <= '9'
}

// value is what a digit is worth.
func value(c byte) int {
	return int(c - '0')
}
