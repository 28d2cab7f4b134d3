package segment_test

import (
	"math"
	"slices"
	"strings"
	"testing"

	"bitext/api"
	"bitext/segment"
)

// placesAre checks the result of Place for every offset, and outside of them.
func placesAre(t *testing.T, f []api.Item, want ...int) {
	t.Helper()
	for offset, at := range want {
		if got := segment.Place(f, offset); got != at {
			t.Errorf("Place(%v, %d) = %d, not %d", f, offset, got, at)
		}
	}
	for _, offset := range []int{math.MinInt, -2, -1, len(want), len(want) + 1, math.MaxInt} {
		if got := segment.Place(f, offset); got != -1 {
			t.Errorf("Place(%v, %d) = %d", f, offset, got)
		}
	}
}

// P6.5: fragments of every kind of item.
func TestPlaceValues(t *testing.T) {
	placesAre(t, nil, 0)
	placesAre(t, list(text("ab")), 0, 1, 2)
	placesAre(t, list(text("ab"), text("c")), 0, 1, 2, 3)
	placesAre(t, list(slot("n"), slot("name")), 0, 1, 2)
	placesAre(t, list(text("\x00\xff\n")), 0, 1, 2, 3)
	placesAre(t, list(open(1, "b")), 0)
	placesAre(t, list(empty(1, "br")), 0)
	placesAre(t, list(open(1, "b"), text("a"), empty(2, "br"), slot("n")), 0, 2, 4)
	placesAre(t, list(text("ab"), open(1, "b"), open(2, "i"), text("c")), 0, 1, 2, 5)
	placesAre(t, list(text("ab"), empty(1, "br"), text("c"), empty(2, "br")), 0, 1, 2, 4)
	placesAre(t, list(slot("n"), open(1, "b"), slot("n"), text("a")), 0, 1, 3, 4)
}

// P6.5: the Close items that follow directly, and those that do not.
func TestPlaceCloses(t *testing.T) {
	placesAre(t, list(shut(1, "b")), 1)
	placesAre(t, list(shut(1, "b"), shut(2, "b"), shut(3, "b")), 3)
	placesAre(t, list(text("a"), shut(1, "b")), 0, 2)
	placesAre(t, list(text("ab"), shut(2, "b"), shut(1, "b"), text("c"), shut(3, "b")), 0, 1, 4, 6)
	placesAre(t, list(slot("n"), shut(1, "b"), slot("n"), shut(2, "b"), shut(3, "b")), 0, 2, 5)
	placesAre(t, list(shut(1, "b"), text("a"), shut(2, "b")), 1, 3)
	placesAre(t, list(text("a"), shut(1, "b"), open(2, "i"), shut(2, "i"), text("b")), 0, 2, 5)
	placesAre(t, list(text("a"), open(2, "i"), shut(2, "i"), text("b")), 0, 1, 4)
	placesAre(t, list(text("a"), shut(1, "b"), empty(2, "br"), shut(3, "b"), text("b")), 0, 2, 5)
	placesAre(t, list(text("a"), empty(2, "br"), shut(3, "b"), text("b")), 0, 1, 4)
	placesAre(t, list(open(1, "b"), shut(1, "b"), text("b")), 0, 3)
	placesAre(t, list(text("a"), shut(0, ""), shut(-1, "B"), text("b")), 0, 3, 4)
}

// P6.5: Empty Text items have no position and end no row of Close items.
func TestPlaceEmptyTexts(t *testing.T) {
	placesAre(t, list(text("")), 0)
	placesAre(t, list(text(""), text("a"), text(""), text("b"), text("")), 0, 1, 2)
	placesAre(t, list(text("a"), text(""), shut(1, "b")), 0, 2)
	placesAre(t, list(text("a"), text(""), text(""), shut(1, "b"), text(""), shut(2, "b"), text(""), text("b")), 0, 3, 4)
	placesAre(t, list(text(""), shut(1, "b"), text(""), shut(2, "b"), open(3, "b"), text(""), shut(3, "b")), 2)
	placesAre(t, list(slot("n"), text(""), shut(1, "b"), text("")), 0, 2)
	placesAre(t, list(text("a"), text(""), open(1, "b"), text(""), shut(1, "b"), text("b")), 0, 1, 4)
}

// P6.5: items of other kinds take a position and end a row of Close items.
func TestPlaceOtherKinds(t *testing.T) {
	for _, kind := range badKinds {
		x := other(kind)
		placesAre(t, list(x), 0)
		placesAre(t, list(x, shut(1, "b"), text("a")), 0, 3)
		placesAre(t, list(text("a"), x, text("b")), 0, 1, 3)
		placesAre(t, list(text("a"), x, shut(1, "b"), text("b")), 0, 1, 4)
		placesAre(t, list(text("a"), shut(1, "b"), x, shut(2, "b"), text("b")), 0, 2, 5)
		placesAre(t, list(text("a"), shut(1, "b"), shut(2, "b"), x, x, slot("n"), x), 0, 3, 6)
		placesAre(t, list(text("ab"), text(""), x, text(""), shut(2, "b")), 0, 1, 2)
	}
}

// rangesAre checks the result of Ranges for the rules of the example.
func rangesAre(t *testing.T, f []api.Item, want ...api.Range) {
	t.Helper()
	if got := segment.Ranges(chapter, f); !slices.Equal(got, want) {
		t.Errorf("Ranges(%v) = %v, not %v", f, got, want)
	}
}

// to is the range of positions from from up to to.
func to(from, to int) api.Range { return api.Range{From: from, To: to} }

// P6.6: fragments of text, with and without breaks and spaces.
func TestRangesOfText(t *testing.T) {
	rangesAre(t, nil)
	rangesAre(t, list(text("One")), to(0, 3))
	rangesAre(t, list(text("One. Two.")), to(0, 4), to(5, 9))
	rangesAre(t, list(text("Mr. X came. He left.")), to(0, 11), to(12, 20))
	rangesAre(t, list(text("  One.  Two.  ")), to(2, 6), to(8, 12))
	rangesAre(t, list(text("One.\t\n\r Two.\r\n")), to(0, 4), to(8, 12))
	rangesAre(t, list(text("a  b")), to(0, 4))
	rangesAre(t, list(text("a\v \v. \f")), to(0, 5), to(6, 7))
	rangesAre(t, list(text("A.B. C")), to(0, 4), to(5, 6))
	rangesAre(t, list(text("A"), text(". "), text(" B"), text("")), to(0, 2), to(4, 5))
	rangesAre(t, list(text(". . .")), to(0, 1), to(2, 3), to(4, 5))
	rangesAre(t, list(text("\xff. \xa0")), to(0, 2), to(3, 4))
}

// P6.6: tags at a break; a Close belongs to the piece before, others to that
// behind it.
func TestRangesTagsAtBreak(t *testing.T) {
	b := open(1, "b")
	rangesAre(t, list(b, text("A."), shut(1, "b"), text(" B")), to(0, 4), to(5, 6))
	rangesAre(t, list(text("A."), b, text(" B"), shut(1, "b")), to(0, 2), to(2, 6))
	rangesAre(t, list(text("A. "), b, text("B"), shut(1, "b")), to(0, 2), to(3, 6))
	rangesAre(t, list(open(2, "i"), b, text("A."), shut(1, "b"), shut(2, "i"), text(" B")), to(0, 6), to(7, 8))
	rangesAre(t, list(open(2, "i"), text("A."), shut(2, "i"), b, text(" B"), shut(1, "b")), to(0, 4), to(4, 8))
	rangesAre(t, list(text("A."), empty(1, "br"), text(" "), empty(2, "br"), text("B")), to(0, 2), to(2, 6))
	rangesAre(t, list(text("A"), b, text("."), text(""), shut(1, "b"), text(""), text(" B.")), to(0, 4), to(5, 7))
	rangesAre(t, list(text("A."), empty(3, "br"), shut(1, "b"), text(" B")), to(0, 2), to(2, 6))
	rangesAre(t, list(text("A. "), slot("n"), text(". ")), to(0, 2), to(3, 5))
	rangesAre(t, list(text("A."), slot("n"), text(" B")), to(0, 5))
	rangesAre(t, list(text("Mr."), shut(1, "b"), text(" A."), shut(2, "b"), text(" B")), to(0, 8), to(9, 10))
}

// P6.6: pieces of spaces only, of tags only, and of both are dropped.
func TestRangesDropped(t *testing.T) {
	rangesAre(t, list(text(" ")))
	rangesAre(t, list(text("\t\r\n  ")))
	rangesAre(t, list(empty(1, "br")))
	rangesAre(t, list(open(1, "b"), shut(1, "b")))
	rangesAre(t, list(text("  "), empty(1, "br"), text(" "), open(2, "b"), text("")))
	rangesAre(t, list(shut(1, "b"), text(" "), shut(2, "b")))
	rangesAre(t, list(text("A. ")), to(0, 2))
	rangesAre(t, list(text("A. "), empty(1, "br"), text(" ")), to(0, 2))
	rangesAre(t, list(text("A."), open(1, "b"), text(" "), shut(1, "b")), to(0, 2))
	rangesAre(t, list(slot("n")), to(0, 1))
	rangesAre(t, list(text("  "), slot("n"), text(" ")), to(2, 3))
	rangesAre(t, list(text("\x00")), to(0, 1))
	every := cascade(breaks("", ""))
	for i, x := range []struct {
		f    []api.Item
		want []api.Range
	}{
		{list(text("a b")), []api.Range{to(0, 1), to(2, 3)}},
		{list(text("  a  ")), []api.Range{to(2, 3)}},
		{list(text("a "), open(1, "b"), text(" "), shut(1, "b"), text("b")), []api.Range{to(0, 1), to(5, 6)}},
		{list(empty(1, "br"), text(" "), empty(2, "br"), text(" b")), []api.Range{to(4, 5)}},
		{list(slot("n"), slot("n"), shut(1, "b")), []api.Range{to(0, 1), to(1, 3)}},
	} {
		if got := segment.Ranges(every, x.f); !slices.Equal(got, x.want) {
			t.Errorf("%d: Ranges = %v, not %v", i, got, x.want)
		}
	}
}

// P6.6: spaces at the ends are removed up to the first and from the last tag.
func TestRangesTrimmed(t *testing.T) {
	b, c := open(1, "b"), shut(1, "b")
	rangesAre(t, list(text(" "), b, text(" x "), c, text(" ")), to(1, 6))
	rangesAre(t, list(text("  "), empty(1, "br"), text("\tx")), to(2, 5))
	rangesAre(t, list(b, text("  x  "), c), to(0, 7))
	rangesAre(t, list(text(" "), text(" "), text(""), text("\nx "), text("\t")), to(3, 4))
	rangesAre(t, list(text(" "), text(""), b, text(" x"), text(" "), text(""), c, text("")), to(1, 6))
	rangesAre(t, list(text("A. "), b, text(" B. "), c, text(" C ")), to(0, 2), to(3, 7), to(8, 11))
	rangesAre(t, list(text("x "), empty(1, "br")), to(0, 3))
	rangesAre(t, list(empty(1, "br"), text(" x")), to(0, 3))
}

// P6.6: items of other kinds are neither text nor spaces, and end the removal.
func TestRangesOtherKinds(t *testing.T) {
	for _, kind := range badKinds {
		x := other(kind)
		rangesAre(t, list(x))
		rangesAre(t, list(text(" "), x, text(" ")))
		rangesAre(t, list(text(" "), x, text(" a "), x, text(" ")), to(1, 6))
		rangesAre(t, list(text("A."), x, text(" B")), to(0, 2), to(2, 5))
		rangesAre(t, list(text("A."), shut(1, "b"), x, shut(2, "b"), text(" B")), to(0, 3), to(3, 7))
	}
}

// P6.6: there are breaks in MaxLength bytes of plain text, whatever the number
// of positions, and none in one more.
func TestRangesLimit(t *testing.T) {
	every := cascade(breaks("", ""))
	s := strings.Repeat("a", api.MaxLength)
	if got := segment.Ranges(every, list(text(s))); len(got) != api.MaxLength || got[0] != to(0, 1) || got[api.MaxLength-1] != to(api.MaxLength-1, api.MaxLength) {
		t.Errorf("%d segments of single bytes", len(got))
	}
	if got := segment.Ranges(every, list(text(s), shut(1, "b"))); len(got) != api.MaxLength || got[api.MaxLength-1] != to(api.MaxLength-1, api.MaxLength+1) {
		t.Errorf("%d segments of single bytes and a tag", len(got))
	}
	for _, x := range []api.Item{text("a"), slot("n")} {
		if got := segment.Ranges(every, list(text(s), x)); !slices.Equal(got, []api.Range{to(0, api.MaxLength+1)}) {
			t.Errorf("%d segments of a long text", len(got))
		}
	}
	if got := segment.Ranges(every, list(text("  "+s+" "))); !slices.Equal(got, []api.Range{to(2, api.MaxLength+2)}) {
		t.Errorf("%d segments of a long text with spaces", len(got))
	}
	if got := segment.Ranges(nil, list(text(" a. b "))); !slices.Equal(got, []api.Range{to(1, 5)}) {
		t.Errorf("without rules, the segments are %v", got)
	}
}
