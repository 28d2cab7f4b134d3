package sheet

import "bitext/api"

// content is what is read of a raw content so far.
type content struct {
	elements []api.Item // each takes one position of the fragment
	starts   []int      // the offsets at which the elements begin
	items    int        // of the fragment, in which adjacent texts are one
}

// readContent reads a raw content. If raw is none, at is the offset of the first
// element that cannot be read.
func readContent(raw string) (c content, at int, e api.Errno) {
	r := scanner{s: raw}
	for r.more() {
		start := r.at
		x, ok := r.readElement()
		if !ok {
			return content{}, start, api.ErrSyntax
		}
		if !c.add(x, start) {
			return content{}, start, api.ErrLimit
		}
	}
	return c, 0, api.OK
}

// add appends an element. A content to which it does not fit is of no more use.
func (c *content) add(x api.Item, start int) bool {
	if x.Kind != api.Text || !c.endsWithText() {
		c.items++
	}
	c.elements = append(c.elements, x)
	c.starts = append(c.starts, start)
	return c.items <= api.MaxItems && len(c.elements) <= api.MaxLength
}

func (c *content) endsWithText() bool {
	last := len(c.elements) - 1
	return last >= 0 && c.elements[last].Kind == api.Text
}
