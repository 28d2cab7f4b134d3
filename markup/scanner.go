package markup

import (
	"strings"

	"bitext/api"
	"bitext/class"
	"bitext/item"
)

// scanner reads a string from its beginning to its end. A method that reads one
// thing and reports false has read nothing.
type scanner struct {
	s  string
	at int // of the next byte
}

// more reports whether a byte is left.
func (r *scanner) more() bool { return r.at < len(r.s) }

// skip reads the bytes of prefix, if they are the next ones.
func (r *scanner) skip(prefix string) bool {
	if !strings.HasPrefix(r.s[r.at:], prefix) {
		return false
	}
	r.at += len(prefix)
	return true
}

// skipTo reads all bytes before the next b, or all that are left.
func (r *scanner) skipTo(b byte) {
	if size := strings.IndexByte(r.s[r.at:], b); size >= 0 {
		r.at += size
	} else {
		r.at = len(r.s)
	}
}

// readBetween reads left, any bytes, and the next right behind left; it returns
// the bytes between them.
func (r *scanner) readBetween(left, right string) (inside string, ok bool) {
	behind, ok := strings.CutPrefix(r.s[r.at:], left)
	if !ok {
		return "", false
	}
	inside, _, ok = strings.Cut(behind, right)
	if !ok {
		return "", false
	}
	r.at += len(left) + len(inside) + len(right)
	return inside, true
}

func (r *scanner) skipComment() bool {
	_, ok := r.readBetween("<!--", "-->")
	return ok
}

// readTag reads a tag of any kind and name; its number is 0.
func (r *scanner) readTag() (tag api.Item, ok bool) {
	from := r.at
	// No tag has a > before its end.
	inside, ok := r.readBetween("<", ">")
	if !ok {
		return api.Item{}, false
	}
	if name, closes := strings.CutPrefix(inside, "/"); closes {
		tag, ok = api.Item{Kind: api.Close, Text: name}, class.IsName(name)
	} else if content, empty := strings.CutSuffix(inside, "/"); empty {
		tag, ok = api.Item{Kind: api.Empty, Text: content}, item.IsContent(content)
	} else {
		tag, ok = api.Item{Kind: api.Open, Text: inside}, item.IsContent(inside)
	}
	if !ok {
		r.at = from
		return api.Item{}, false
	}
	return tag, true
}

// readInline reads a tag that may stand in a raw content.
func (r *scanner) readInline() (tag api.Item, ok bool) {
	from := r.at
	tag, ok = r.readTag()
	if !ok || hasBlockName(tag) {
		r.at = from
		return api.Item{}, false
	}
	return tag, true
}

func (r *scanner) readSlot() (slot api.Item, ok bool) {
	from := r.at
	name, ok := r.readBetween("{", "}")
	if !ok || !class.IsName(name) {
		r.at = from
		return api.Item{}, false
	}
	return api.Item{Kind: api.Slot, Text: name}, true
}

// readReference reads a reference as the byte for which it stands.
func (r *scanner) readReference() (x api.Item, ok bool) {
	x.Kind = api.Text
	switch {
	case r.skip(less):
		x.Text = "<"
	case r.skip(greater):
		x.Text = ">"
	case r.skip(ampersand):
		x.Text = "&"
	case r.skip(leftBrace):
		x.Text = "{"
	case r.skip(rightBrace):
		x.Text = "}"
	default:
		return api.Item{}, false
	}
	return x, true
}

// readElement reads the next element of a raw content, of which at least a byte
// is left, as an item of one position.
func (r *scanner) readElement() (x api.Item, ok bool) {
	switch r.s[r.at] {
	case '<':
		return r.readInline()
	case '{':
		return r.readSlot()
	case '&':
		return r.readReference()
	}
	r.at++
	return api.Item{Kind: api.Text, Text: r.s[r.at-1 : r.at]}, true
}
