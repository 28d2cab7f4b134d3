package sheet

import (
	"strings"

	"bitext/api"
	"bitext/class"
)

// scanner reads a string from its beginning to its end. A method that reads one
// thing and reports false has read nothing.
type scanner struct {
	s  string
	at int // of the next byte
}

// more reports whether a byte is left.
func (r *scanner) more() bool { return r.at < len(r.s) }

// rest returns what is not read yet.
func (r *scanner) rest() string { return r.s[r.at:] }

// readElement reads the next element of a raw content, of which at least a byte
// is left, as an item of one position.
func (r *scanner) readElement() (x api.Item, ok bool) {
	rest := r.rest()
	size := 1
	switch {
	case strings.HasPrefix(rest, `""`), strings.HasPrefix(rest, "{{"):
		size = 2
	case rest[0] == '{':
		return r.readSlot()
	case rest[0] == '"':
		return api.Item{}, false
	}
	r.at += size
	return api.Item{Kind: api.Text, Text: rest[:1]}, true
}

// readSlot reads a placeholder, of which the { is the next byte.
func (r *scanner) readSlot() (x api.Item, ok bool) {
	name, _, closed := strings.Cut(r.rest()[1:], "}")
	if !closed || !class.IsName(name) {
		return api.Item{}, false
	}
	r.at += len("{") + len(name) + len("}")
	return api.Item{Kind: api.Slot, Text: name}, true
}

// field is a field of a record: its bytes, without the quotes, and the offset of
// the first of them.
type field struct {
	quoted bool
	at     int
	raw    string
}

// readField reads a field. It fails if neither a separator nor the end of the
// record follows.
func (r *scanner) readField() (x field, ok bool) {
	rest := r.rest()
	var size int
	if inner, quoted := strings.CutPrefix(rest, `"`); quoted {
		n, closed := closingQuote(inner)
		if !closed {
			return field{}, false
		}
		x = field{quoted: true, at: r.at + len(`"`), raw: inner[:n]}
		size = len(`"`) + n + len(`"`)
	} else {
		size = bareLength(rest)
		x = field{at: r.at, raw: rest[:size]}
	}
	if size < len(rest) && rest[size] != ',' && rest[size] != '\n' {
		return field{}, false
	}
	r.at += size
	return x, true
}

// bareLength returns how many bytes of s a bare field has.
func bareLength(s string) int {
	if n := strings.IndexAny(s, "\",\n"); n >= 0 {
		return n
	}
	return len(s)
}

// closingQuote returns the offset of the first " that is not doubled.
func closingQuote(s string) (at int, ok bool) {
	for at < len(s) {
		switch {
		case s[at] != '"':
			at++
		case strings.HasPrefix(s[at:], `""`):
			at += 2
		default:
			return at, true
		}
	}
	return 0, false
}

// readEnd reads what follows a field, and reports whether the record ends there.
// The last record may lack the byte that ends it.
func (r *scanner) readEnd() bool {
	if !r.more() {
		return true
	}
	r.at++
	return r.s[r.at-1] == '\n'
}
