package resource

import (
	"strings"

	"bitext/api"
	"bitext/class"
)

// blanks are the bytes of a blank line, of the space in front of a comment, and of
// what is left out behind the end of a line that goes on.
const blanks = " \t"

// maxKey is the greatest number of bytes of a key.
const maxKey = 64

// scanner reads a string from its beginning to its end. A method that reads one
// thing and reports false has read nothing.
type scanner struct {
	s  string
	at int // of the next byte
}

// more reports whether a byte is left.
func (r *scanner) more() bool { return r.at < len(r.s) }

// rest returns what is not read yet.
func (r *scanner) rest() string { return r.s[r.at:] }

// skipContinuations reads all continuations that come next.
func (r *scanner) skipContinuations() {
	for {
		behind, ok := strings.CutPrefix(r.rest(), "\\\n")
		if !ok {
			return
		}
		r.at = len(r.s) - len(strings.TrimLeft(behind, blanks))
	}
}

// readElement reads the next element of a raw value, of which at least a byte is
// left and which is no continuation, as an item of one position.
func (r *scanner) readElement() (x api.Item, ok bool) {
	switch r.s[r.at] {
	case '\n':
		return api.Item{}, false
	case '\\':
		return r.readEscape()
	case '{':
		return r.readSlot()
	}
	r.at++
	return api.Item{Kind: api.Text, Text: r.s[r.at-1 : r.at]}, true
}

// readEscape reads a \ and a letter as the byte for which they stand.
func (r *scanner) readEscape() (x api.Item, ok bool) {
	rest := r.rest()
	if len(rest) < 2 {
		return api.Item{}, false
	}
	n := strings.IndexByte(letters, rest[1])
	if n < 0 {
		return api.Item{}, false
	}
	r.at += 2
	return api.Item{Kind: api.Text, Text: meant[n : n+1]}, true
}

// readSlot reads a placeholder, of which the { is the next byte.
func (r *scanner) readSlot() (x api.Item, ok bool) {
	name, _, closed := strings.Cut(r.rest()[1:], "}")
	if !closed || !class.IsName(name) {
		return api.Item{}, false
	}
	r.at += len("{") + len(name) + len("}")
	return api.Item{Kind: api.Slot, Text: name}, true
}

// skipUntranslated reads a line that is blank or a comment, with its end.
func (r *scanner) skipUntranslated() bool {
	line, _, _ := strings.Cut(r.rest(), "\n")
	if shown := strings.TrimLeft(line, blanks); shown != "" && shown[0] != '#' {
		return false
	}
	r.at += len(line)
	r.skipEnd()
	return true
}

// skipEnd reads the end of a line, which the last line may lack.
func (r *scanner) skipEnd() {
	if r.more() {
		r.at++
	}
}

// readKey reads the key of a line and the = behind it.
func (r *scanner) readKey() (key string, ok bool) {
	key, _, ok = strings.Cut(r.rest(), "=")
	if !ok || !isKey(key) {
		return "", false
	}
	r.at += len(key) + len("=")
	return key, true
}

func isKey(s string) bool {
	for i := range len(s) {
		if !isKeyByte(s[i]) {
			return false
		}
	}
	return 1 <= len(s) && len(s) <= maxKey
}

func isKeyByte(b byte) bool {
	return 'a' <= b && b <= 'z' || '0' <= b && b <= '9' || b == '.' || b == '_' || b == '-'
}

// readRaw reads everything up to the end of a raw value, readable or not.
func (r *scanner) readRaw() string {
	from := r.at
	for r.more() && r.s[r.at] != '\n' {
		if r.s[r.at] == '\\' {
			// The next byte belongs to this one, so it does not end the line.
			r.at++
		}
		r.at++
	}
	// A \ may be the last byte.
	r.at = min(r.at, len(r.s))
	return r.s[from:r.at]
}
