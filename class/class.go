// Package class is layer 1: classes of bytes and names (shared/doc/01-class.md).
package class

import "bitext/api"

// Of returns the class of b, one of the constants api.ClassControl to api.ClassMark.
func Of(b byte) int {
	switch {
	case b == '\t', b == '\n', b == '\r', b == ' ':
		return api.ClassSpace
	case b < ' ', b == 127:
		return api.ClassControl
	case '0' <= b && b <= '9':
		return api.ClassDigit
	case isUpper(b), isLower(b), b >= 128:
		return api.ClassLetter
	}
	return api.ClassMark
}

func isUpper(b byte) bool { return 'A' <= b && b <= 'Z' }

func isLower(b byte) bool { return 'a' <= b && b <= 'z' }

// Lower returns s with a to z in place of A to Z. It goes by bytes, not by
// runes: strings need not be UTF-8, and all offsets stay what they were.
func Lower(s string) string {
	lower := []byte(s)
	for i, b := range lower {
		if isUpper(b) {
			lower[i] = b - 'A' + 'a'
		}
	}
	return string(lower)
}

// IsName reports whether s is a name: 1 to api.MaxName bytes, a letter from a
// to z and then such letters, digits and hyphens.
func IsName(s string) bool {
	if len(s) < 1 || len(s) > api.MaxName || !isLower(s[0]) {
		return false
	}
	for i := 1; i < len(s); i++ {
		if !isNameByte(s[i]) {
			return false
		}
	}
	return true
}

// isNameByte reports whether b may stand behind the first byte of a name.
func isNameByte(b byte) bool {
	return isLower(b) || '0' <= b && b <= '9' || b == '-'
}

// Trim returns the range of s without the Space bytes at its ends; it is 0, 0
// if s has no other bytes.
func Trim(s string) (from, to int) {
	to = len(s)
	for to > 0 && Of(s[to-1]) == api.ClassSpace {
		to--
	}
	// Nothing is left of a string of spaces by now, so from stays 0 as required.
	for from < to && Of(s[from]) == api.ClassSpace {
		from++
	}
	return from, to
}

// Runs returns the longest ranges of bytes of one class, in order.
func Runs(s string) []api.Range {
	var runs []api.Range
	from := 0
	for to := 1; to <= len(s); to++ {
		if to == len(s) || Of(s[to]) != Of(s[from]) {
			runs = append(runs, api.Range{From: from, To: to})
			from = to
		}
	}
	return runs
}
