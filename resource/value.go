package resource

import "bitext/api"

// value is what is read of a raw value so far.
type value struct {
	elements []api.Item // that are no continuations: each takes one position
	cuts     []int      // 0, and the offsets behind the elements
	items    int        // of the fragment, in which adjacent texts are one
}

// readValue reads a raw value. If raw is none, at is the offset of the first
// element that cannot be read.
func readValue(raw string) (v value, at int, e api.Errno) {
	v.cuts = []int{0}
	r := scanner{s: raw}
	for r.skipContinuations(); r.more(); r.skipContinuations() {
		start := r.at
		x, ok := r.readElement()
		if !ok {
			return value{}, start, api.ErrSyntax
		}
		if !v.add(x, r.at) {
			return value{}, start, api.ErrLimit
		}
	}
	return v, 0, api.OK
}

// add appends an element with the offset behind it. That is also where the next
// position begins, as continuations belong to what follows them. A value to which
// the element does not fit is of no more use.
func (v *value) add(x api.Item, end int) bool {
	if x.Kind != api.Text || !v.endsWithText() {
		v.items++
	}
	v.elements = append(v.elements, x)
	v.cuts = append(v.cuts, end)
	return v.items <= api.MaxItems && len(v.elements) <= api.MaxLength
}

func (v *value) endsWithText() bool {
	last := len(v.elements) - 1
	return last >= 0 && v.elements[last].Kind == api.Text
}
