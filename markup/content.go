package markup

import "bitext/api"

// content is what is read of a raw content so far.
type content struct {
	elements []api.Item // each takes one position of the fragment
	starts   []int      // the offsets at which the elements begin
	items    int        // of the fragment, in which adjacent texts are one
	tags     int        // that have a number of their own
	open     []api.Item // the opening tags that are not closed yet
}

// readContent reads a raw content. If raw is none, at is the offset of the first
// element that cannot be read.
func readContent(raw string) (c content, at int, e api.Errno) {
	r := scanner{s: raw}
	for r.more() {
		start := r.at
		x, ok := r.readElement()
		if !ok {
			return content{}, start, api.ErrSyntax
		}
		if e = c.add(x, start); e != api.OK {
			return content{}, start, e
		}
	}
	if len(c.open) > 0 {
		return content{}, len(raw), api.ErrTag
	}
	return c, 0, api.OK
}

// add appends an element, a tag with its number. A content to which it does not
// fit is of no more use.
func (c *content) add(x api.Item, start int) api.Errno {
	switch x.Kind {
	case api.Open:
		x.ID = c.nextNumber()
		c.open = append(c.open, x)
	case api.Empty:
		x.ID = c.nextNumber()
	case api.Close:
		opening, ok := c.closeLast(x.Text)
		if !ok {
			return api.ErrTag
		}
		x.ID = opening.ID
	}
	if x.Kind != api.Text || !c.endsWithText() {
		c.items++
	}
	c.elements = append(c.elements, x)
	c.starts = append(c.starts, start)
	if c.items > api.MaxItems || len(c.elements) > api.MaxLength {
		return api.ErrLimit
	}
	return api.OK
}

func (c *content) nextNumber() int {
	c.tags++
	return c.tags
}

// closeLast closes the last open tag and returns it. It fails if that has
// another name, or no tag is open.
func (c *content) closeLast(name string) (opening api.Item, ok bool) {
	top := len(c.open) - 1
	if top < 0 || nameOf(c.open[top]) != name {
		return api.Item{}, false
	}
	opening = c.open[top]
	c.open = c.open[:top]
	return opening, true
}

func (c *content) endsWithText() bool {
	last := len(c.elements) - 1
	return last >= 0 && c.elements[last].Kind == api.Text
}
