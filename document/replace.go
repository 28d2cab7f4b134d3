package document

import (
	"slices"
	"strings"

	"bitext/api"
	"bitext/item"
)

// Replace returns d with the targets in place of the ranges of a unit.
func Replace(d api.Document, part int, ranges []api.Range, targets [][]api.Item) (api.Document, api.Errno) {
	if e := Validate(d); e != api.OK {
		return api.Document{}, e
	}
	f, e := Content(d, part)
	if e != api.OK {
		return api.Document{}, e
	}
	if len(targets) != len(ranges) || !areDisjoint(ranges, item.Length(f)) {
		return api.Document{}, api.ErrArgument
	}
	s, _ := syntaxOf(d.Format)
	raw, e := s.replaceRaw(d.Parts[part].Raw, ranges, targets)
	if e != api.OK {
		return api.Document{}, e
	}
	if e = s.verify(raw, replaceContent(f, ranges, targets)); e != api.OK {
		return api.Document{}, e
	}
	replaced := api.Document{Format: d.Format, Parts: slices.Clone(d.Parts)}
	replaced.Parts[part].Raw = raw
	if len(Bytes(replaced)) > api.MaxDocument {
		return api.Document{}, api.ErrLimit
	}
	return replaced, api.OK
}

// areDisjoint reports whether the ranges lie one behind the other in a fragment
// with the given number of positions.
func areDisjoint(ranges []api.Range, length int) bool {
	done := 0
	for _, x := range ranges {
		if x.From < done || x.To < x.From || x.To > length {
			return false
		}
		done = x.To
	}
	return true
}

// replaceRaw returns raw, which can be read, with the encodings of the targets in
// place of the ranges.
func (s syntax) replaceRaw(raw string, ranges []api.Range, targets [][]api.Item) (string, api.Errno) {
	cuts, _ := s.cuts(raw)
	var result strings.Builder
	done := 0
	for i, x := range ranges {
		encoding, e := s.encode(targets[i])
		if e != api.OK {
			return "", e
		}
		result.WriteString(raw[done:cuts[x.From]])
		result.WriteString(encoding)
		done = cuts[x.To]
	}
	result.WriteString(raw[done:])
	return result.String(), api.OK
}

// replaceContent returns f with the targets in place of the ranges. Tags that have
// nothing to do with each other may have the same number in it.
func replaceContent(f []api.Item, ranges []api.Range, targets [][]api.Item) []api.Item {
	var pieces []api.Item
	done := 0
	for i, x := range ranges {
		kept, _ := item.Slice(f, done, x.From)
		pieces = append(append(pieces, kept...), targets[i]...)
		done = x.To
	}
	kept, _ := item.Slice(f, done, item.Length(f))
	return item.Concat(pieces, kept)
}

// verify returns the error of a raw content that was to have the fragment f, up to
// the numbers of its tags.
func (s syntax) verify(raw string, f []api.Item) api.Errno {
	got, _, e := s.decode(raw)
	if e != api.OK {
		return e
	}
	// Tags of one name could have been closed in another way than f says.
	if !item.Same(got, item.Renumber(f)) {
		return api.ErrConflict
	}
	return api.OK
}
