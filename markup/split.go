package markup

import (
	"strconv"
	"strings"

	"bitext/api"
)

// Split returns the parts of a document: the raw contents of its blocks, and the
// skeleton around them. If data is no document, at is the offset of the first
// bytes that cannot be read.
func Split(data string) (parts []api.Part, at int, e api.Errno) {
	if len(data) > api.MaxDocument {
		return nil, 0, api.ErrLimit
	}
	r := scanner{s: data}
	skeleton := 0 // where the skeleton behind the last unit begins
	for key := 1; ; key++ {
		name, ok := r.skipToBlock()
		if !ok {
			return nil, r.at, api.ErrSyntax
		}
		before := api.Part{Raw: data[skeleton:r.at]}
		if name == "" {
			return append(parts, before), 0, api.OK
		}
		unit := api.Part{Unit: true, Key: strconv.Itoa(key)}
		if unit.Raw, at, e = r.readUnit(name); e != api.OK {
			return nil, at, e
		}
		parts = append(parts, before, unit)
		skeleton = r.at
		r.skip(closingTag(name))
	}
}

// skipToBlock reads everything up to the raw content of the next block, and
// returns the name of the block, or nothing if there is no further block. Where it
// fails, it has read everything up to what cannot be read.
func (r *scanner) skipToBlock() (name string, ok bool) {
	for r.skipTo('<'); r.more(); r.skipTo('<') {
		if r.skipComment() {
			continue
		}
		start := r.at
		tag, ok := r.readTag()
		if !ok || hasBlockName(tag) && tag.Kind != api.Open {
			r.at = start
			return "", false
		}
		if hasBlockName(tag) {
			return nameOf(tag), true
		}
	}
	return "", true
}

// readUnit reads the raw content of a block up to its closing tag. If there is
// none, at is the offset of the first bytes that cannot be read.
func (r *scanner) readUnit(name string) (raw string, at int, e api.Errno) {
	from := r.at
	// What can be read does not contain these bytes, as every < in it begins a tag
	// that is allowed there; so their first place is the end of the block.
	raw, _, closed := strings.Cut(r.s[from:], closingTag(name))
	if _, at, e = Decode(raw); e != api.OK {
		return "", from + at, e
	}
	if !closed {
		return "", len(r.s), api.ErrSyntax
	}
	r.at += len(raw)
	return raw, 0, api.OK
}
