package pattern

import (
	"bitext/api"
	"bitext/class"
)

// set is a set of bytes: bit b%8 of its element b/8 stands for the byte b.
type set [32]byte

func (s set) has(b byte) bool { return s[b/8]&(1<<(b%8)) != 0 }

func (s *set) add(b byte) { s[b/8] |= 1 << (b % 8) }

// addRange adds the bytes from first to last.
func (s *set) addRange(first, last byte) {
	// A byte would wrap around behind 255, and the loop would not end.
	for b := int(first); b <= int(last); b++ {
		s.add(byte(b))
	}
}

func (s *set) addAll(other set) {
	for i, bits := range other {
		s[i] |= bits
	}
}

// inverse returns the set of all other bytes.
func (s set) inverse() set {
	for i := range s {
		s[i] = ^s[i]
	}
	return s
}

// ofClass returns the set of the bytes of a class.
func ofClass(number int) set {
	var s set
	for b := range 256 {
		if class.Of(byte(b)) == number {
			s.add(byte(b))
		}
	}
	return s
}

// named returns the set that is written as \ and the letter, if there is one.
func named(letter byte) (s set, ok bool) {
	switch letter {
	case 's', 'S':
		s = ofClass(api.ClassSpace)
	case 'd', 'D':
		s = ofClass(api.ClassDigit)
	case 'l', 'L':
		s = ofClass(api.ClassLetter)
	case 'c', 'C':
		s = ofClass(api.ClassControl)
	case 'm', 'M':
		s = ofClass(api.ClassMark)
	case 'u', 'U':
		s.addRange('A', 'Z')
	default:
		return set{}, false
	}
	if letter <= 'Z' {
		s = s.inverse()
	}
	return s, true
}
