package segment

import (
	"slices"

	"bitext/api"
	"bitext/class"
	"bitext/item"
)

// cell is what takes one position of a fragment: a byte of a Text item, or an
// item of another kind.
type cell struct {
	kind int
	b    byte // of a Text item only
}

// isPlain reports whether a cell gives a byte to item.Plain.
func (c cell) isPlain() bool { return c.kind == api.Text || c.kind == api.Slot }

// isSpace reports whether a cell is a byte of class Space.
func (c cell) isSpace() bool { return c.kind == api.Text && class.Of(c.b) == api.ClassSpace }

// isContent reports whether a cell makes a piece of a fragment a segment.
func (c cell) isContent() bool { return c.isPlain() && !c.isSpace() }

// cellsOf returns the cells of f, one for each position. Empty Text items have
// no position, so they leave nothing behind.
func cellsOf(f []api.Item) []cell {
	var cells []cell
	for _, x := range f {
		if x.Kind != api.Text {
			cells = append(cells, cell{kind: x.Kind})
			continue
		}
		for i := range len(x.Text) {
			cells = append(cells, cell{kind: api.Text, b: x.Text[i]})
		}
	}
	return cells
}

// places returns the position that belongs to every offset of the plain text of
// some cells, from 0 to its length.
func places(cells []cell) []int {
	all := []int{skipCloses(cells, 0)}
	for at, c := range cells {
		if c.isPlain() {
			all = append(all, skipCloses(cells, at+1))
		}
	}
	return all
}

// skipCloses returns the position behind the closing tags that follow at one:
// they belong to the text before them.
func skipCloses(cells []cell, at int) int {
	for at < len(cells) && cells[at].kind == api.Close {
		at++
	}
	return at
}

// Place returns the position of f that belongs to an offset of its plain text,
// or -1 if there is no such offset.
func Place(f []api.Item, offset int) int {
	all := places(cellsOf(f))
	if offset < 0 || offset >= len(all) {
		return -1
	}
	return all[offset]
}

// Ranges returns the segments of f: the pieces between its breaks, without the
// spaces at their ends.
func Ranges(rules []api.Rule, f []api.Item) []api.Range {
	cells := cellsOf(f)
	all := places(cells)
	var ranges []api.Range
	from := 0
	for _, offset := range Breaks(rules, item.Plain(f)) {
		ranges = addPiece(ranges, cells, from, all[offset])
		from = all[offset]
	}
	return addPiece(ranges, cells, from, len(cells))
}

// addPiece adds the range of a piece without the spaces at its ends, unless the
// piece has no content.
func addPiece(ranges []api.Range, cells []cell, from, to int) []api.Range {
	if !slices.ContainsFunc(cells[from:to], cell.isContent) {
		return ranges
	}
	// The content ends both loops within the piece.
	for cells[from].isSpace() {
		from++
	}
	for cells[to-1].isSpace() {
		to--
	}
	return append(ranges, api.Range{From: from, To: to})
}
