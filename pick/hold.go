package pick

import (
	"cmp"
	"strings"

	"credenza/api"
	"credenza/count"
	"credenza/version"
)

// hold is -1, if a goes ahead of b, 1, if b goes ahead of a, else 0. Each question stands behind those that weigh more;
// what it leaves alike falls through to what is asked next.
func hold(a, b api.Cand) int {
	rank := Rank(a)
	switch {
	case rank != Rank(b):
		return cmp.Compare(rank, Rank(b))
	case a.Version != b.Version:
		// Unlike texts may tell the same version.
		if n := newer(a, b); n != 0 {
			return n
		}
		fallthrough
	case rank == 0:
		// Those of the other rank are all bad.
		if n := goodFirst(a, b); n != 0 {
			return n
		}
		fallthrough
	default:
		return strings.Compare(a.File, b.File)
	}
}

// newer is -1, if a has the newer version, 1, if b has it, else 0.
func newer(a, b api.Cand) int {
	return version.Compare(b.Version, a.Version)
}

// goodFirst is -1, if a alone is good, 1, if b alone is, else 0, of two of one rank.
func goodFirst(a, b api.Cand) int {
	return cmp.Compare(count.State(a.Count), count.State(b.Count))
}
