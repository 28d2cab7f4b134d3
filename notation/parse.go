package notation

import (
	"strconv"
	"strings"

	"bitext/api"
	"bitext/item"
)

// Parse returns the fragment whose notation is s. If there is none, at is the
// offset of the first element that cannot be read.
func Parse(s string) (f []api.Item, at int, e api.Errno) {
	d := draft{tags: map[int][]api.Item{}}
	for at < len(s) {
		x, size := readElement(s[at:])
		if size == 0 {
			return nil, at, api.ErrSyntax
		}
		if e = d.add(x); e != api.OK {
			return nil, at, e
		}
		at += size
	}
	d.endText()
	return d.items, 0, api.OK
}

// draft is the fragment of the elements that are read so far.
type draft struct {
	items  []api.Item
	text   []byte             // of the last item, if that is a Text item
	length int                // positions
	tags   map[int][]api.Item // by their numbers
}

// add appends an element. A draft to which it does not fit is of no more use.
func (d *draft) add(x api.Item) api.Errno {
	if isTag(x) && !d.admits(x) {
		return api.ErrTag
	}
	if x.Kind == api.Text {
		d.addText(x.Text)
	} else {
		d.endText()
		d.items = append(d.items, x)
	}
	// Every element takes one position, however many bytes it is written with.
	d.length++
	if len(d.items) > api.MaxItems || d.length > api.MaxLength {
		return api.ErrLimit
	}
	return api.OK
}

// admits reports whether a tag fits to the earlier tags, and adds it to them.
// Only those with its number matter, so the others are left out, and a fragment
// of many items is not too long for Validate to tell.
func (d *draft) admits(tag api.Item) bool {
	tags := append(d.tags[tag.ID], tag)
	d.tags[tag.ID] = tags
	return item.Validate(tags) == api.OK
}

// addText appends to the text of the last item, or begins a Text item, which
// gets its text when it ends.
func (d *draft) addText(text string) {
	if len(d.text) == 0 {
		d.items = append(d.items, api.Item{Kind: api.Text})
	}
	d.text = append(d.text, text...)
}

// endText ends the last item, if it is a Text item.
func (d *draft) endText() {
	if len(d.text) > 0 {
		d.items[len(d.items)-1].Text = string(d.text)
		d.text = d.text[:0]
	}
}

func isTag(x api.Item) bool {
	return x.Kind == api.Open || x.Kind == api.Close || x.Kind == api.Empty
}

// readElement returns the element at the beginning of s, which is not empty, as
// an item of one position, and the number of its bytes in s; this number is 0 if
// there is no element.
func readElement(s string) (x api.Item, size int) {
	switch s[0] {
	case '<':
		x, size = readTag(s)
	case '{':
		x, size = readSlot(s)
	case '\\':
		return readEscape(s)
	default:
		return readByte(s)
	}
	if size == 0 || item.Validate([]api.Item{x}) != api.OK {
		return api.Item{}, 0
	}
	return x, size
}

// readTag reads what has the brackets of a tag, a number and a text, whatever
// this text is.
func readTag(s string) (tag api.Item, size int) {
	inside, _, ended := strings.Cut(s[1:], ">")
	digits, text, ok := strings.Cut(inside, ":")
	if !ended || !ok {
		return api.Item{}, 0
	}
	kind := api.Open
	if number, closes := strings.CutPrefix(digits, "/"); closes {
		kind, digits = api.Close, number
	} else if content, empty := strings.CutSuffix(text, "/"); empty {
		kind, text = api.Empty, content
	}
	return api.Item{Kind: kind, Text: text, ID: readNumber(digits)}, len("<") + len(inside) + len(">")
}

// readNumber returns the number with the given digits, or 0, which is not the
// number of a tag, if the number is not written in this way.
func readNumber(digits string) int {
	n, err := strconv.Atoi(digits)
	// Atoi also takes signs and leading zeros, which Itoa does not write.
	if err != nil || strconv.Itoa(n) != digits {
		return 0
	}
	return n
}

// readSlot reads what has the brackets of a slot, whatever its name is.
func readSlot(s string) (slot api.Item, size int) {
	name, _, ended := strings.Cut(s[1:], "}")
	if !ended {
		return api.Item{}, 0
	}
	return api.Item{Kind: api.Slot, Text: name}, len("{") + len(name) + len("}")
}

// readByte reads a byte that stands for itself.
func readByte(s string) (x api.Item, size int) {
	if signOf(s[0]) != 0 {
		return api.Item{}, 0
	}
	return api.Item{Kind: api.Text, Text: s[:1]}, 1
}

// readEscape reads the escape of a byte, but none of a byte that is written in
// another way.
func readEscape(s string) (x api.Item, size int) {
	if len(s) < 2 {
		return api.Item{}, 0
	}
	sign := s[1]
	b, size := sign, 2
	switch sign {
	case 'n':
		b = '\n'
	case 't':
		b = '\t'
	case 'x':
		b, size = readHex(s)
	}
	if size == 0 || signOf(b) != sign {
		return api.Item{}, 0
	}
	return api.Item{Kind: api.Text, Text: string([]byte{b})}, size
}

// readHex reads the byte of an escape \x with two digits.
func readHex(s string) (b byte, size int) {
	if len(s) < 4 {
		return 0, 0
	}
	high, low := strings.IndexByte(hexDigits, s[2]), strings.IndexByte(hexDigits, s[3])
	if high < 0 || low < 0 {
		return 0, 0
	}
	return byte(16*high + low), 4
}
