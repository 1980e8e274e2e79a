package fault

import (
	"errors"
	"slices"

	"credenza/api"
)

// kept is how many lists of joined errors are known again. It keeps an error that makes new ones for ever from taking all
// memory; a list that is not known again is gone into once more, at the cost of some links.
const kept = 1 << 22

// round knows whether a walk from Fault to Fault has come back to where it was. It holds each one against a mark, and
// lays the mark anew at each power of two (Brent's way), so it needs no memory of the Faults, however many there are.
// Only Faults are held against each other: of foreign errors == may panic, or go down the whole chain by recursion.
type round struct {
	mark  *api.Fault
	steps int
}

// closed says whether f, the next Fault, is the one with the mark.
func (r *round) closed(f *api.Fault) bool {
	if f == r.mark {
		return true
	}
	r.steps++
	if r.steps&(r.steps-1) == 0 {
		r.mark = f
	}
	return false
}

// bottom is the Errno that errors.As finds. errors.As does not come back from a chain without an end, and goes into
// joined errors by recursion, for which there may be no room; so it is asked of single links, in its own order.
func bottom(err error) (n api.Errno, ok bool) {
	s := search{todo: []error{err}, been: map[list]struct{}{}, left: reach}
	for len(s.todo) > 0 && s.left > 0 && !ok {
		n, ok = s.down(s.pop())
	}
	return n, ok
}

// search is a walk through an error and all that it wraps.
type search struct {
	todo []error           // what is still to be gone into, the next one last
	been map[list]struct{} // the lists of joined errors that have been gone into
	left int               // how many links may still be followed
}

// list is a list of joined errors, by its place.
type list struct {
	first *error
	long  int
}

// pop takes the next one out of todo.
func (s *search) pop() error {
	last := len(s.todo) - 1
	e := s.todo[last]
	s.todo = s.todo[:last]
	return e
}

// down looks for a number from err on down.
func (s *search) down(err error) (api.Errno, bool) {
	r := round{}
	for err != nil && s.left > 0 {
		s.left--
		if f := itself(err); f != nil && r.closed(f) {
			break
		}
		below := next(err)
		if below == nil {
			return s.end(err)
		}
		if n, ok := own(err); ok {
			return n, true
		}
		err = below
	}
	return api.OK, false
}

// end looks for a number in err, the last link of a chain, and puts what it joins into todo.
func (s *search) end(err error) (api.Errno, bool) {
	l := joined(err)
	if len(l) == 0 {
		return alone(err)
	}
	if n, ok := own(err); ok {
		return n, true
	}
	place := list{&l[0], len(l)}
	if _, ok := s.been[place]; ok || s.left < len(l) {
		return api.OK, false
	}
	if len(s.been) < kept {
		s.been[place] = struct{}{}
	}
	s.left -= 2 + len(l) // the head of a list counts too
	for _, e := range slices.Backward(l) {
		s.todo = append(s.todo, e)
	}
	return api.OK, false
}

// own asks err, but nothing that it wraps. What wraps another is no Errno, but may answer errors.As by a method.
func own(err error) (api.Errno, bool) {
	if a, ok := err.(asked); ok {
		return alone(single{err, a})
	}
	return api.OK, false
}

// asked is what answers errors.As by a method.
type asked interface{ As(any) bool }

// single is an error without what it wraps.
type single struct {
	error
	asked
}

// alone asks err, which wraps nothing.
func alone(err error) (n api.Errno, ok bool) {
	defer func() {
		if recover() != nil {
			n, ok = api.OK, false
		}
	}()
	ok = errors.As(err, &n)
	return n, ok
}

// joined are the errors that err wraps side by side, which errors.Unwrap does not tell.
func joined(err error) (l []error) {
	defer func() {
		if recover() != nil {
			l = nil
		}
	}()
	var j interface{ Unwrap() []error }
	if errors.As(err, &j) {
		l = j.Unwrap()
	}
	return l
}
