package item

import (
	"strings"

	"bitext/api"
	"bitext/class"
)

// IsContent reports whether s can be the content of an Open or Empty: a name,
// or a name, a space and at least one more byte.
func IsContent(s string) bool {
	name, rest, more := strings.Cut(s, " ")
	if len(s) > api.MaxTag || !class.IsName(name) || more && rest == "" {
		return false
	}
	for i := range len(rest) {
		if !isContentByte(rest[i]) {
			return false
		}
	}
	return !strings.HasSuffix(rest, "/")
}

// isContentByte reports whether b may stand behind the name in a content.
func isContentByte(b byte) bool {
	switch b {
	case '<', '>', '{', '}':
		return false
	}
	return ' ' <= b && b <= '~'
}

// nameOf returns the name of a tag with the given content.
func nameOf(content string) string {
	name, _, _ := strings.Cut(content, " ")
	return name
}

// Validate returns the first error of f, or OK if f is valid.
func Validate(f []api.Item) api.Errno {
	if len(f) > api.MaxItems || Length(f) > api.MaxLength {
		return api.ErrLimit
	}
	numbers := numbering{taken: map[int]bool{}, unclosed: map[int]string{}}
	afterText := false
	for _, item := range f {
		isText := item.Kind == api.Text
		if !isProper(item) || isText && afterText {
			return api.ErrArgument
		}
		if isTag(item) && !numbers.admits(item) {
			return api.ErrTag
		}
		afterText = isText
	}
	return api.OK
}

// isProper reports whether an item by itself may occur in a valid fragment.
func isProper(item api.Item) bool {
	switch item.Kind {
	case api.Text:
		return item.Text != "" && item.ID == 0
	case api.Open, api.Empty:
		return IsContent(item.Text) && isNumber(item.ID)
	case api.Close:
		return class.IsName(item.Text) && isNumber(item.ID)
	case api.Slot:
		return class.IsName(item.Text) && item.ID == 0
	}
	return false
}

// isNumber reports whether a tag may have the number n.
func isNumber(n int) bool { return 1 <= n && n <= api.MaxID }

// numbering knows the numbers of the tags so far.
type numbering struct {
	taken    map[int]bool
	unclosed map[int]string // the names of Opens that have no Close yet
}

// admits reports whether tag may follow the tags so far, and adds it to them.
// A number that is taken serves once more only to close its Open.
func (n numbering) admits(tag api.Item) bool {
	if n.taken[tag.ID] {
		name, ok := n.unclosed[tag.ID]
		delete(n.unclosed, tag.ID)
		return ok && tag.Kind == api.Close && tag.Text == name
	}
	n.taken[tag.ID] = true
	if tag.Kind == api.Open {
		n.unclosed[tag.ID] = nameOf(tag.Text)
	}
	return true
}
