package pattern

import (
	"strings"

	"bitext/api"
	"bitext/class"
)

// The bytes of class Mark that do not stand for themselves; \ never does, and
// outside brackets . and [ are read before.
const (
	signsOutside = "*+?()|]{}"
	signsInside  = "][^-"
)

// Parse returns the pattern that is written as s. If there is none, at is the
// offset of the first byte that does not fit.
func Parse(s string) (p []api.Atom, at int, e api.Errno) {
	r := reader{s: s}
	for r.at < len(s) {
		if len(p) == api.MaxAtoms {
			return nil, r.at, api.ErrLimit
		}
		members, ok := r.readSet()
		if !ok {
			return nil, r.at, api.ErrSyntax
		}
		a := api.Atom{Set: members}
		a.Min, a.Many = r.readQuantifier()
		p = append(p, a)
	}
	return p, 0, api.OK
}

// reader reads a pattern. Where readSet reports false, at is the offset of the
// first byte that does not fit.
type reader struct {
	s  string
	at int // of the next byte
}

// peek returns the byte that is n bytes behind the next one, or 0 behind the
// end: as this byte fits nowhere, an end that comes too soon needs no other care.
func (r *reader) peek(n int) byte {
	if r.at+n >= len(r.s) {
		return 0
	}
	return r.s[r.at+n]
}

// skip reads the byte b, if it is the next one.
func (r *reader) skip(b byte) bool {
	if r.peek(0) != b {
		return false
	}
	r.at++
	return true
}

func (r *reader) readSet() (s set, ok bool) {
	if r.skip('.') {
		return s.inverse(), true
	}
	if r.skip('[') {
		return r.readMembers()
	}
	if s, ok = r.readNamed(); ok {
		return s, true
	}
	b, ok := r.readByte(signsOutside)
	if ok {
		s.add(b)
	}
	return s, ok
}

// readQuantifier reads what may follow a set, and returns Min and Many.
func (r *reader) readQuantifier() (least int, many bool) {
	switch {
	case r.skip('*'):
		return 0, true
	case r.skip('+'):
		return 1, true
	case r.skip('?'):
		return 0, false
	}
	return 1, false
}

// readMembers reads a set in brackets behind its [.
func (r *reader) readMembers() (s set, ok bool) {
	inverse := r.skip('^')
	for first := true; first || !r.skip(']'); first = false {
		if !r.addMember(&s) {
			return set{}, false
		}
	}
	if inverse {
		return s.inverse(), true
	}
	return s, true
}

// addMember reads a member of a set in brackets, and adds its bytes to s.
func (r *reader) addMember(s *set) bool {
	if more, ok := r.readNamed(); ok {
		s.addAll(more)
		return true
	}
	first, ok := r.readByte(signsInside)
	if !ok {
		return false
	}
	last := first
	if r.skip('-') {
		from := r.at
		if last, ok = r.readByte(signsInside); !ok {
			return false
		}
		if last < first {
			r.at = from
			return false
		}
	}
	s.addRange(first, last)
	return true
}

// readNamed reads a set of two bytes, \ and a letter; it reads nothing if
// something else follows.
func (r *reader) readNamed() (s set, ok bool) {
	if r.peek(0) != '\\' {
		return set{}, false
	}
	if s, ok = named(r.peek(1)); ok {
		r.at += 2
	}
	return s, ok
}

// readByte reads a byte that stands for itself, which those of signs do not, or
// a byte of class Mark behind a \.
func (r *reader) readByte(signs string) (b byte, ok bool) {
	escaped := r.skip('\\')
	b = r.peek(0)
	switch class.Of(b) {
	case api.ClassMark:
		ok = escaped || strings.IndexByte(signs, b) < 0
	case api.ClassLetter, api.ClassDigit:
		ok = !escaped
	}
	if !ok {
		return 0, false
	}
	r.at++
	return b, true
}
