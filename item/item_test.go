package item_test

import (
	"math"
	"slices"
	"strings"
	"testing"

	"bitext/api"
	"bitext/item"
)

func text(s string) api.Item { return api.Item{Kind: api.Text, Text: s} }

func open(n int, s string) api.Item { return api.Item{Kind: api.Open, Text: s, ID: n} }

func shut(n int, s string) api.Item { return api.Item{Kind: api.Close, Text: s, ID: n} }

func empty(n int, s string) api.Item { return api.Item{Kind: api.Empty, Text: s, ID: n} }

func slot(s string) api.Item { return api.Item{Kind: api.Slot, Text: s} }

// other is an item of any kind, mostly one that is not from Text to Slot.
func other(kind int, s string, n int) api.Item { return api.Item{Kind: kind, Text: s, ID: n} }

// list is a fragment.
func list(items ...api.Item) []api.Item { return items }

// times is a fragment of n equal items.
func times(n int, x api.Item) []api.Item { return slices.Repeat(list(x), n) }

// badKinds are not from Text to Slot.
var badKinds = []int{math.MinInt, -1, 0, api.Slot + 1, api.Word, api.Number, api.Blank, api.Sign, math.MaxInt}

// badNumbers are not the numbers of tags.
var badNumbers = []int{math.MinInt, -api.MaxID, -1, 0, api.MaxID + 1, math.MaxInt}

// Fragments: what the content of an Open or Empty is.
func TestIsContentValues(t *testing.T) {
	name := strings.Repeat("n", api.MaxName)
	for _, s := range []string{
		"b", "h1", "x-y", "a x", "a  ", "a   ", "a /x", "a x/y", "a href=\"x\"", "a A", "a ~", "a !", "a 1-",
		name, name + " x", "a " + strings.Repeat("x", api.MaxTag-2), name + " " + strings.Repeat("~", api.MaxTag-api.MaxName-1),
	} {
		if !item.IsContent(s) {
			t.Errorf("IsContent(%q) is false", s)
		}
	}
	for _, s := range []string{
		"", " ", "/", "b ", "b/", "b /", "a x/", "a  /", " b", " b x", "B", "1", "-", "aB", "a_", "aB x", "a/ x", "a\tx", "a=x", "é", "é x",
		"a <", "a >", "a {", "a }", "a x<y", "a x>y", "a x{y", "a x}y", "a<", "a>", "a \x1f", "a \x00", "a \t", "a x\n", "a \x7f", "a \x80", "a \xff", "a é",
		name + "n", name + "n x", "a " + strings.Repeat("x", api.MaxTag-1), "a " + strings.Repeat("x", 2*api.MaxTag), "a " + strings.Repeat("x", api.MaxTag-3) + "/",
	} {
		if item.IsContent(s) {
			t.Errorf("IsContent(%q) is true", s)
		}
	}
}

// P3.1: fragments of every kind of item that are valid.
func TestValidateOK(t *testing.T) {
	name := strings.Repeat("n", api.MaxName)
	content := "a " + strings.Repeat("x", api.MaxTag-2)
	for i, f := range [][]api.Item{
		nil, {}, list(text("ab"), slot("n"), text("c")), list(text("\x00\xff{<")), list(slot("n"), slot("n")), list(slot(name)),
		list(open(1, "b")), list(shut(1, "b")), list(empty(1, "b")), list(open(1, "b"), shut(1, "b")), list(open(1, "b x=y"), text("a"), shut(1, "b")), list(open(1, "b  "), shut(1, "b")),
		list(open(api.MaxID, content), shut(api.MaxID, "a")), list(shut(api.MaxID, name)), list(empty(api.MaxID, content)), list(open(1, name+" x"), shut(1, name)),
		list(shut(2, "b"), open(3, "b"), empty(4, "b")), list(open(1, "a"), open(2, "a"), shut(1, "a"), shut(2, "a")), list(shut(2, "b"), shut(1, "b"), open(4, "b"), open(3, "b")),
		list(text("a"), empty(1, "br"), text("b"), slot("n"), text("c"), open(2, "i"), text("d"), shut(2, "i"), text("e")),
		list(open(1, "a"), empty(2, "br"), shut(1, "a"), open(3, "a"), shut(3, "a")),
	} {
		if got := item.Validate(f); got != api.OK {
			t.Errorf("%d: Validate(%v) = %d", i, f, got)
		}
	}
}

// P3.1: items that are invalid by themselves or behind another Text item.
func TestValidateArgument(t *testing.T) {
	bad := [][]api.Item{
		list(text("")), list(slot("n"), text("")), list(text("a"), text("b")), list(text("a"), text("")), list(slot("n"), text("a"), text("b")),
		list(other(api.Text, "a", 1)), list(other(api.Text, "a", -1)), list(other(api.Text, "", 1)), list(other(api.Text, "a", math.MinInt)), list(other(api.Text, "a", math.MaxInt)),
		list(slot("")), list(slot("N")), list(slot("n x")), list(slot("1")), list(slot(strings.Repeat("n", api.MaxName+1))), list(other(api.Slot, "n", 1)), list(other(api.Slot, "n", -1)), list(other(api.Slot, "n", math.MinInt)), list(other(api.Slot, "n", math.MaxInt)),
		list(open(1, "")), list(open(1, "b ")), list(open(1, "b/")), list(open(1, "b x/")), list(open(1, "B")), list(open(1, "b <")), list(open(1, "a "+strings.Repeat("x", api.MaxTag-1))),
		list(empty(1, "")), list(empty(1, "b ")), list(empty(1, "b/")), list(empty(1, "b x/")), list(empty(1, "B")), list(empty(1, "b {")), list(empty(1, "a "+strings.Repeat("x", api.MaxTag-1))),
		list(shut(1, "")), list(shut(1, "b x")), list(shut(1, "b ")), list(shut(1, "B")), list(shut(1, "/b")), list(shut(1, strings.Repeat("n", api.MaxName+1))), list(open(1, "b x"), shut(1, "b x")),
	}
	for _, kind := range badKinds {
		bad = append(bad, list(other(kind, "b", 1)), list(other(kind, "b", 0)), list(other(kind, "", 0)), list(text("a"), other(kind, "b", 1), text("b")))
	}
	for _, n := range badNumbers {
		bad = append(bad, list(open(n, "b")), list(shut(n, "b")), list(empty(n, "b")), list(open(n, "b"), shut(n, "b")))
	}
	for i, f := range bad {
		if got := item.Validate(f); got != api.ErrArgument {
			t.Errorf("%d: Validate(%v) = %d", i, f, got)
		}
	}
}

// P3.1: every pair of tags with one number; only an Open and a later Close of
// the same name may share it, and nothing may follow them.
func TestValidateTag(t *testing.T) {
	tags := list(open(1, "b"), open(1, "b x"), open(1, "i"), shut(1, "b"), shut(1, "i"), empty(1, "b"), empty(1, "i"))
	for _, x := range tags {
		for _, y := range tags {
			want := api.ErrTag
			fits := x.Kind == api.Open && y.Kind == api.Close && x.Text[:1] == y.Text
			if fits {
				want = api.OK
			}
			if got := item.Validate(list(x, y)); got != want {
				t.Errorf("Validate(%v, %v) = %d", x, y, got)
			}
			if got := item.Validate(list(x, text("a"), open(2, "i"), slot("n"), y)); got != want {
				t.Errorf("Validate(%v, .., %v) = %d", x, y, got)
			}
			for _, z := range tags {
				if got := item.Validate(list(x, y, z)); got != api.ErrTag {
					t.Errorf("Validate(%v, %v, %v) = %d", x, y, z, got)
				}
			}
			y.ID = 2
			if got := item.Validate(list(x, y)); got != api.OK {
				t.Errorf("Validate(%v, %v) = %d", x, y, got)
			}
		}
	}
}

// P3.1: MaxItems items and MaxLength positions, and one more of each.
func TestValidateLimits(t *testing.T) {
	long := strings.Repeat("a", api.MaxLength)
	var tags []api.Item
	for n := range api.MaxItems + 1 {
		tags = append(tags, empty(n+1, "br"))
	}
	for i, x := range []struct {
		f    []api.Item
		want api.Errno
	}{
		{times(api.MaxItems, slot("n")), api.OK}, {times(api.MaxItems+1, slot("n")), api.ErrLimit}, {tags[:api.MaxItems], api.OK}, {tags, api.ErrLimit},
		{list(text(long)), api.OK}, {list(text(long + "a")), api.ErrLimit}, {list(text(long), slot("n")), api.ErrLimit}, {list(text(long[1:]), slot("n")), api.OK}, {list(open(1, "b x"), text(long[2:]), shut(1, "b")), api.OK}, {list(open(1, "b x"), text(long[1:]), shut(1, "b")), api.ErrLimit}, {list(text(long[:500]), slot("n"), text(long[:523])), api.OK}, {list(text(long[:500]), slot("n"), text(long[:524])), api.ErrLimit},
		// Both limits at once: MaxItems items with MaxLength positions.
		{slices.Repeat(list(slot("n"), text("aaa")), api.MaxItems/2), api.OK}, {slices.Concat(slices.Repeat(list(slot("n"), text("aaa")), api.MaxItems/2-1), list(slot("n"), text("aaaa"))), api.ErrLimit},
	} {
		if got := item.Validate(x.f); got != x.want {
			t.Errorf("%d: %d items, %d positions: %d", i, len(x.f), item.Length(x.f), got)
		}
	}
}

// P3.1: the limits come first, then the first item with an error decides.
func TestValidateOrder(t *testing.T) {
	long := text(strings.Repeat("a", api.MaxLength))
	crossed := list(open(1, "b"), open(1, "b"))
	for i, x := range []struct {
		f    []api.Item
		want api.Errno
	}{
		{times(api.MaxItems+1, text("")), api.ErrLimit}, {times(api.MaxItems+1, other(0, "", 0)), api.ErrLimit}, {times(api.MaxItems, other(0, "", 0)), api.ErrArgument}, {list(text(""), long, text("a")), api.ErrLimit}, {list(other(0, "", 0), long), api.ErrLimit}, {list(open(1, "b"), long, open(1, "b")), api.ErrLimit},
		{times(api.MaxItems+1, empty(1, "b")), api.ErrLimit}, {times(api.MaxItems, empty(1, "b")), api.ErrTag},
		{slices.Concat(crossed, list(text(""))), api.ErrTag}, {slices.Concat(list(text("")), crossed), api.ErrArgument}, {slices.Concat(crossed, list(other(9, "", 0))), api.ErrTag}, {slices.Concat(list(other(9, "", 0)), crossed), api.ErrArgument},
		// Both errors in one item: the number or the content, then its use.
		{list(open(1, "b"), open(1, "b/")), api.ErrArgument}, {list(open(1, "b"), empty(1, "")), api.ErrArgument}, {list(shut(1, "b"), shut(1, "b x")), api.ErrArgument}, {list(empty(0, "b"), empty(0, "b")), api.ErrArgument},
	} {
		if got := item.Validate(x.f); got != x.want {
			t.Errorf("%d: %d, not %d", i, got, x.want)
		}
	}
}

// P3.2: the bytes of text and one position for everything else.
func TestLengthValues(t *testing.T) {
	for i, x := range []struct {
		f    []api.Item
		want int
	}{
		{nil, 0}, {list(text("")), 0}, {list(text("ab")), 2}, {list(text("é\x00\xff")), 4}, {list(other(api.Text, "abc", 7)), 3}, {list(text("ab"), text(""), text("c")), 3},
		{list(open(1, "b long content")), 1}, {list(shut(1, "b")), 1}, {list(empty(1, "b")), 1}, {list(slot("name")), 1}, {list(open(1, ""), slot(""), shut(-1, ""), empty(0, "")), 4},
		{list(open(1, "b"), text("ab"), shut(1, "b")), 4}, {times(5000, slot("n")), 5000}, {times(5000, text("abc")), 15000},
	} {
		if got := item.Length(x.f); got != x.want {
			t.Errorf("%d: Length(%v) = %d, not %d", i, x.f, got, x.want)
		}
	}
	for _, kind := range badKinds {
		if got := item.Length(list(other(kind, "abc", 0), text("ab"), other(kind, "", -1))); got != 4 {
			t.Errorf("Length with the kind %d = %d", kind, got)
		}
	}
}

// P3.2: runs of text at every place of a fragment, numbers of Text items, and
// items that stay as they are.
func TestNormalizeValues(t *testing.T) {
	odd := other(9, "xyz", 5)
	for i, x := range []struct{ f, want []api.Item }{
		{nil, nil}, {list(text("")), nil}, {list(text(""), other(api.Text, "", 4), text("")), nil}, {list(text("a")), list(text("a"))}, {list(text("a"), text("b"), text("c")), list(text("abc"))}, {list(text("a"), text(""), text("b")), list(text("ab"))},
		{list(other(api.Text, "a", 7)), list(text("a"))}, {list(other(api.Text, "a", math.MinInt), other(api.Text, "b", math.MaxInt)), list(text("ab"))},
		{list(text("a"), text("b"), slot("n"), text("c"), text("d")), list(text("ab"), slot("n"), text("cd"))}, {list(slot("n"), text(""), slot("n")), list(slot("n"), slot("n"))}, {list(text(""), slot("n"), text("")), list(slot("n"))},
		{list(text("a"), odd, text("b")), list(text("a"), odd, text("b"))}, {list(odd, odd), list(odd, odd)}, {list(other(0, "", 0)), list(other(0, "", 0))}, {list(other(math.MinInt, "a", 0), text("b"), other(math.MaxInt, "c", 0)), list(other(math.MinInt, "a", 0), text("b"), other(math.MaxInt, "c", 0))},
		{list(open(0, ""), shut(-1, "x y"), empty(5000, "/"), other(api.Slot, "N", 3)), list(open(0, ""), shut(-1, "x y"), empty(5000, "/"), other(api.Slot, "N", 3))},
		{times(3000, text("ab")), list(text(strings.Repeat("ab", 3000)))},
	} {
		if got := item.Normalize(x.f); !slices.Equal(got, x.want) {
			t.Errorf("%d: Normalize(%v) = %v", i, x.f, got)
		}
	}
}

// P3.2: text meets across the border, and both sides are normalized.
func TestConcatValues(t *testing.T) {
	for i, x := range []struct{ a, b, want []api.Item }{
		{nil, nil, nil}, {list(text("a")), nil, list(text("a"))}, {nil, list(text("a")), list(text("a"))}, {list(text("a")), list(text("b")), list(text("ab"))}, {list(slot("n"), text("a")), list(text("b"), text(""), slot("m")), list(slot("n"), text("ab"), slot("m"))},
		{list(slot("n")), list(slot("m")), list(slot("n"), slot("m"))}, {list(text("a"), text("")), list(text(""), other(api.Text, "b", 3)), list(text("ab"))}, {list(text("a"), text("b"), slot("n")), list(text("")), list(text("ab"), slot("n"))}, {list(text("")), list(text("")), nil},
		{list(open(1, "b")), list(open(1, "b")), list(open(1, "b"), open(1, "b"))}, {list(text("a"), other(0, "q", 1)), list(text("b")), list(text("a"), other(0, "q", 1), text("b"))},
	} {
		if got := item.Concat(x.a, x.b); !slices.Equal(got, x.want) {
			t.Errorf("%d: Concat(%v, %v) = %v", i, x.a, x.b, got)
		}
	}
}

// P3.2: Same goes by items, not by text, and over the whole lists.
func TestSameValues(t *testing.T) {
	f := list(open(1, "b"), text("ab"), shut(1, "b"), slot("n"), other(9, "x", 2))
	for i, x := range []struct {
		a, b []api.Item
		want bool
	}{
		{nil, nil, true}, {nil, list(), true}, {f, f, true}, {f, slices.Clone(f), true}, {f, f[:4], false}, {f, f[1:], false}, {f, nil, false}, {list(text("")), nil, false}, {list(text("ab")), list(text("a"), text("b")), false},
		{list(open(1, "b")), list(open(2, "b")), false}, {list(open(1, "b")), list(open(1, "i")), false}, {list(open(1, "b")), list(shut(1, "b")), false}, {list(text("a")), list(other(api.Text, "a", 1)), false}, {list(slot("a"), slot("b")), list(slot("b"), slot("a")), false}, {list(text("a"), slot("n")), list(text("a"), slot("m")), false}, {list(other(0, "", 0)), list(other(0, "", 0)), true},
	} {
		if item.Same(x.a, x.b) != x.want || item.Same(x.b, x.a) != x.want {
			t.Errorf("%d: Same(%v, %v) is not %v", i, x.a, x.b, x.want)
		}
	}
}

// P3.3: ranges that cut text at either end or at both, ranges of no position
// and of all, ranges outside, and empty Text items.
func TestSliceValues(t *testing.T) {
	f := list(open(1, "b"), text("ab"), shut(1, "b"))
	numbered := list(other(api.Text, "abcd", 7), other(9, "xyz", 3), text(""), text("e"))
	for i, x := range []struct {
		f        []api.Item
		from, to int
		want     []api.Item
		ok       bool
	}{
		{f, 2, 4, list(text("b"), shut(1, "b")), true}, {f, 0, 4, f, true}, {f, 0, 1, list(open(1, "b")), true}, {f, 0, 2, list(open(1, "b"), text("a")), true}, {f, 1, 3, list(text("ab")), true}, {f, 1, 2, list(text("a")), true}, {f, 2, 3, list(text("b")), true}, {f, 3, 4, list(shut(1, "b")), true},
		{f, 0, 0, nil, true}, {f, 1, 1, nil, true}, {f, 2, 2, nil, true}, {f, 3, 3, nil, true}, {f, 4, 4, nil, true}, {nil, 0, 0, nil, true}, {list(text("")), 0, 0, nil, true},
		{f, -1, 2, nil, false}, {f, -1, -1, nil, false}, {f, 3, 2, nil, false}, {f, 4, 3, nil, false}, {f, 0, 5, nil, false}, {f, 5, 5, nil, false}, {f, 5, 4, nil, false}, {nil, 0, 1, nil, false}, {nil, -1, 0, nil, false}, {nil, 1, 1, nil, false}, {list(text("")), 0, 1, nil, false},
		{f, math.MinInt, math.MaxInt, nil, false}, {f, math.MinInt, math.MinInt, nil, false}, {f, math.MaxInt, math.MaxInt, nil, false}, {f, 0, math.MaxInt, nil, false}, {f, 0, math.MinInt, nil, false}, {f, math.MaxInt, math.MinInt, nil, false}, {f, math.MinInt, 0, nil, false},
		{list(text("abcdef")), 2, 4, list(text("cd")), true}, {list(text("abcdef")), 0, 4, list(text("abcd")), true}, {list(text("abcdef")), 4, 6, list(text("ef")), true}, {list(text("é")), 1, 2, list(text("\xa9")), true},
		{list(text("a"), text("bc"), text("de")), 0, 4, list(text("a"), text("bc"), text("d")), true}, {list(text("a"), text("bc"), text("de")), 2, 3, list(text("c")), true}, {list(text("a"), text(""), text("bc")), 0, 2, list(text("a"), text("b")), true}, {list(text(""), slot("n"), text(""), slot("m"), text("")), 0, 2, list(slot("n"), slot("m")), true},
		{numbered, 1, 3, list(other(api.Text, "bc", 7)), true}, {numbered, 0, 6, list(numbered[0], numbered[1], numbered[3]), true}, {numbered, 3, 5, list(other(api.Text, "d", 7), other(9, "xyz", 3)), true}, {numbered, 4, 5, list(other(9, "xyz", 3)), true}, {numbered, 5, 6, list(text("e")), true},
		{list(slot("long-name"), open(3, "b long")), 1, 2, list(open(3, "b long")), true},
	} {
		if got, ok := item.Slice(x.f, x.from, x.to); ok != x.ok || !slices.Equal(got, x.want) {
			t.Errorf("%d: Slice(%v, %d, %d) = %v, %v", i, x.f, x.from, x.to, got, ok)
		}
	}
}

// P3.4: text and placeholders, in order, and nothing of anything else.
func TestPlainValues(t *testing.T) {
	for i, x := range []struct {
		f    []api.Item
		want string
	}{
		{nil, ""}, {list(text("a"), slot("n"), text("b")), "a\xffb"}, {list(text("")), ""}, {list(slot("n"), slot("n")), "\xff\xff"}, {list(text("\xff"), slot("n")), "\xff\xff"}, {list(text("é"), text("b")), "éb"},
		{list(open(1, "b x"), text("a"), empty(2, "br"), shut(1, "b")), "a"}, {list(other(0, "a", 0), other(9, "b", 0), other(-1, "c", 0)), ""}, {list(other(api.Text, "a", 4), other(api.Slot, "", 4)), "a\xff"},
	} {
		if got := item.Plain(x.f); got != x.want {
			t.Errorf("%d: Plain(%v) = %q", i, x.f, got)
		}
	}
}

// P3.4: the tags of every kind, whatever their numbers and contents.
func TestTagsValues(t *testing.T) {
	for i, x := range []struct{ f, want []api.Item }{
		{nil, nil}, {list(text("a"), slot("n")), nil}, {list(text("a"), open(2, "b"), slot("m"), shut(2, "b"), empty(3, "br")), list(open(2, "b"), shut(2, "b"), empty(3, "br"))}, {list(empty(1, "a"), empty(1, "a")), list(empty(1, "a"), empty(1, "a"))}, {list(shut(2, "b"), open(1, "b"), empty(3, "b")), list(shut(2, "b"), open(1, "b"), empty(3, "b"))},
		{list(open(math.MinInt, ""), other(0, "b", 1), shut(math.MaxInt, "x y"), other(6, "b", 2), empty(0, "/")), list(open(math.MinInt, ""), shut(math.MaxInt, "x y"), empty(0, "/"))},
	} {
		if got := item.Tags(x.f); !slices.Equal(got, x.want) {
			t.Errorf("%d: Tags(%v) = %v", i, x.f, got)
		}
	}
	for _, kind := range badKinds {
		if got := item.Tags(list(other(kind, "b", 1))); len(got) != 0 {
			t.Errorf("Tags with the kind %d = %v", kind, got)
		}
	}
}

// P3.4: sorted bytewise, with duplicates.
func TestSlotsValues(t *testing.T) {
	for i, x := range []struct {
		f    []api.Item
		want []string
	}{
		{nil, nil}, {list(text("a"), open(1, "b"), shut(1, "b"), empty(2, "c"), other(9, "d", 0)), nil}, {list(slot("m"), text("a"), slot("n"), slot("m")), []string{"m", "m", "n"}}, {list(slot("n"), slot("n")), []string{"n", "n"}}, {list(slot("b"), slot("a-b"), slot("a"), slot("a1"), slot("")), []string{"", "a", "a-b", "a1", "b"}}, {list(slot("é"), slot("z"), other(api.Slot, "Z", 7)), []string{"Z", "z", "é"}},
	} {
		if got := item.Slots(x.f); !slices.Equal(got, x.want) {
			t.Errorf("%d: Slots(%v) = %q", i, x.f, got)
		}
	}
}

// P3.5: tags that nest, that are not closed or not opened, and that cross.
func TestShapeValues(t *testing.T) {
	for i, x := range []struct {
		f             []api.Item
		closes, opens []int
		ok            bool
	}{
		{nil, nil, nil, true}, {list(text("a"), slot("n"), other(9, "b", 1)), nil, nil, true}, {list(shut(2, "b"), open(3, "b"), empty(4, "b")), []int{2}, []int{3}, true}, {list(open(1, "b"), text("a"), shut(1, "b")), nil, nil, true}, {list(open(1, "a"), open(2, "b"), shut(2, "b"), open(3, "c"), shut(3, "c"), shut(1, "a")), nil, nil, true},
		{list(open(1, "a"), open(2, "b"), shut(2, "b")), nil, []int{1}, true}, {list(open(2, "a"), open(1, "b"), open(3, "c")), nil, []int{2, 1, 3}, true}, {list(shut(2, "a"), shut(1, "b"), shut(3, "c")), []int{2, 1, 3}, nil, true}, {list(open(1, "a"), shut(1, "a"), shut(5, "b"), open(1, "a"), shut(1, "a"), shut(4, "b"), open(9, "c"), open(8, "c")), []int{5, 4}, []int{9, 8}, true},
		{list(open(1, "a"), open(2, "b"), shut(1, "a"), shut(2, "b")), nil, nil, false}, {list(open(1, "a"), shut(2, "b")), nil, nil, false}, {list(shut(3, "a"), open(4, "a"), open(1, "a"), shut(2, "b")), nil, nil, false}, {list(open(1, "a"), shut(2, "a"), open(2, "a")), nil, nil, false}, {list(shut(1, "a"), open(2, "a"), shut(1, "a")), nil, nil, false},
		// Names do not count, and neither do the rules for valid fragments.
		{list(open(1, "a"), shut(1, "b")), nil, nil, true}, {list(shut(1, "a"), open(1, "a")), []int{1}, []int{1}, true}, {list(open(1, "a"), open(1, "a"), shut(1, "a")), nil, []int{1}, true}, {list(open(1, "a"), empty(1, "a"), empty(2, "b"), shut(1, "a")), nil, nil, true}, {list(open(math.MinInt, ""), shut(math.MinInt, ""), shut(0, ""), open(-1, ""), open(math.MaxInt, "")), []int{0}, []int{-1, math.MaxInt}, true}, {list(open(math.MinInt, ""), shut(math.MaxInt, "")), nil, nil, false},
	} {
		if closes, opens, ok := item.Shape(x.f); ok != x.ok || !slices.Equal(closes, x.closes) || !slices.Equal(opens, x.opens) {
			t.Errorf("%d: Shape(%v) = %v, %v, %v", i, x.f, closes, opens, ok)
		}
	}
}

// P3.6: each of the conditions by itself, on both sides.
func TestCompatibleValues(t *testing.T) {
	source := list(open(1, "b"), text("x"), shut(1, "b"), empty(2, "br"), slot("a"), slot("b"))
	crossed := list(open(1, "a"), open(2, "a"), shut(1, "a"), shut(2, "a"))
	for i, x := range []struct {
		a, b []api.Item
		want bool
	}{
		{nil, nil, true}, {nil, list(text("a")), true}, {source, source, true}, {source, list(slot("b"), empty(2, "br"), open(1, "b"), slot("a"), text(""), shut(1, "b"), text("yz")), true}, {list(shut(1, "a")), list(text("x"), shut(1, "a")), true}, {list(slot("a"), text("x"), slot("a")), list(slot("a"), slot("a")), true},
		// Another shape with the same tags.
		{source, list(shut(1, "b"), open(1, "b"), empty(2, "br"), slot("a"), slot("b")), false}, {list(open(1, "a"), open(2, "b")), list(open(2, "b"), open(1, "a")), false}, {list(shut(1, "a"), shut(2, "b")), list(shut(2, "b"), shut(1, "a")), false}, {list(open(1, "a"), shut(1, "a"), open(1, "a")), list(open(1, "a"), open(1, "a"), shut(1, "a")), true},
		// A shape that is not ok.
		{crossed, crossed, false}, {crossed, list(open(1, "a"), open(2, "a"), shut(2, "a"), shut(1, "a")), false}, {list(open(1, "a"), shut(2, "a")), list(open(1, "a"), shut(2, "a")), false},
		// Other tags with the same shape.
		{source, list(open(1, "b"), shut(1, "b"), slot("a"), slot("b")), false}, {source, list(open(1, "b"), shut(1, "b"), empty(3, "br"), slot("a"), slot("b")), false}, {source, list(open(1, "b x"), shut(1, "b"), empty(2, "br"), slot("a"), slot("b")), false}, {source, list(open(1, "b"), shut(1, "i"), empty(2, "br"), slot("a"), slot("b")), false}, {list(empty(1, "a")), list(empty(1, "b")), false}, {list(empty(1, "a"), empty(1, "a")), list(empty(1, "a")), false}, {list(empty(1, "a"), empty(1, "a"), empty(2, "a")), list(empty(1, "a"), empty(2, "a"), empty(2, "a")), false}, {list(open(1, "a"), shut(1, "a")), list(open(2, "a"), shut(2, "a")), false},
		// Other placeholders.
		{source, list(open(1, "b"), shut(1, "b"), empty(2, "br"), slot("a"), slot("a")), false}, {source, list(open(1, "b"), shut(1, "b"), empty(2, "br"), slot("a")), false}, {list(slot("a"), slot("a")), list(slot("a")), false}, {list(slot("a"), slot("a"), slot("b")), list(slot("a"), slot("b"), slot("b")), false}, {list(slot("a")), nil, false},
		// What is neither a tag nor a placeholder does not count; nor does the number of a placeholder.
		{list(other(9, "a", 1)), list(other(0, "b", 2), other(9, "a", 1)), true}, {list(slot("a")), list(other(api.Slot, "a", 5)), true}, {list(text("a")), list(other(api.Text, "b", 5)), true}, {list(empty(math.MinInt, "")), list(empty(math.MaxInt, "")), false},
	} {
		if item.Compatible(x.a, x.b) != x.want || item.Compatible(x.b, x.a) != x.want {
			t.Errorf("%d: Compatible(%v, %v) is not %v", i, x.a, x.b, x.want)
		}
	}
}

// P3.7: the numbers of tags only, in the order of their first occurrence.
func TestNumbersValues(t *testing.T) {
	for i, x := range []struct {
		f    []api.Item
		want []int
	}{
		{nil, nil}, {list(text("a"), slot("n"), other(api.Text, "a", 4), other(api.Slot, "n", 5), other(9, "b", 6), other(0, "b", 7)), nil}, {list(open(3, "b"), text("a"), empty(1, "br"), shut(3, "b"), slot("n"), shut(2, "i")), []int{3, 1, 2}}, {list(empty(1, "a"), empty(1, "b"), open(1, "c")), []int{1}}, {list(shut(2, "a"), open(1, "a"), shut(1, "a"), open(2, "a")), []int{2, 1}}, {list(open(0, ""), open(-1, ""), open(math.MaxInt, ""), open(math.MinInt, ""), shut(0, "")), []int{0, -1, math.MaxInt, math.MinInt}},
	} {
		if got := item.Numbers(x.f); !slices.Equal(got, x.want) {
			t.Errorf("%d: Numbers(%v) = %v", i, x.f, got)
		}
	}
}

// P3.7: swapped numbers, numbers twice in from, lists of different lengths,
// and text that meets where a tag is left out.
func TestRenameValues(t *testing.T) {
	f := list(open(3, "b"), text("a"), empty(1, "br"), text("b"), shut(3, "b"), slot("n"))
	for i, x := range []struct {
		f        []api.Item
		from, to []int
		want     []api.Item
	}{
		{nil, []int{1}, []int{2}, nil}, {f, []int{3, 1}, []int{3, 1}, f}, {f, []int{1, 3}, []int{3, 1}, list(open(1, "b"), text("a"), empty(3, "br"), text("b"), shut(1, "b"), slot("n"))}, {f, []int{3, 1}, []int{5, 5}, list(open(5, "b"), text("a"), empty(5, "br"), text("b"), shut(5, "b"), slot("n"))}, {f, []int{1, 9, 3}, []int{7, 8, 6}, list(open(6, "b"), text("a"), empty(7, "br"), text("b"), shut(6, "b"), slot("n"))},
		// Tags that are left out.
		{f, nil, nil, list(text("ab"), slot("n"))}, {f, []int{1}, []int{2}, list(text("a"), empty(2, "br"), text("b"), slot("n"))}, {f, []int{3}, []int{2}, list(open(2, "b"), text("ab"), shut(2, "b"), slot("n"))}, {f, []int{2}, []int{1}, list(text("ab"), slot("n"))}, {list(empty(1, "a")), nil, []int{1}, nil},
		// A number twice in from: the least place counts.
		{f, []int{3, 3, 1}, []int{5, 6, 3}, list(open(5, "b"), text("a"), empty(3, "br"), text("b"), shut(5, "b"), slot("n"))}, {f, []int{3, 1, 3, 1}, []int{0, 8, 9, 9}, list(open(0, "b"), text("a"), empty(8, "br"), text("b"), shut(0, "b"), slot("n"))},
		// A partner is missing: the place in from is ignored, so the tag is left out.
		{f, []int{3, 1}, []int{1}, list(open(1, "b"), text("ab"), shut(1, "b"), slot("n"))}, {f, []int{3, 1}, nil, list(text("ab"), slot("n"))}, {f, []int{3, 3}, []int{4}, list(open(4, "b"), text("ab"), shut(4, "b"), slot("n"))}, {f, []int{3}, []int{4, 1}, list(open(4, "b"), text("ab"), shut(4, "b"), slot("n"))}, {f, nil, []int{3, 1}, list(text("ab"), slot("n"))},
		// Only tags have numbers.
		{list(other(api.Text, "a", 3), other(api.Slot, "n", 3), other(9, "x", 3), other(0, "y", 4)), []int{3}, []int{5}, list(text("a"), other(api.Slot, "n", 3), other(9, "x", 3), other(0, "y", 4))},
		{list(open(math.MinInt, ""), shut(math.MaxInt, ""), empty(0, "")), []int{math.MaxInt, math.MinInt}, []int{math.MinInt, -1}, list(open(-1, ""), shut(math.MinInt, ""))},
	} {
		if got := item.Rename(x.f, x.from, x.to); !slices.Equal(got, x.want) {
			t.Errorf("%d: Rename(%v, %v, %v) = %v", i, x.f, x.from, x.to, got)
		}
	}
}

// P3.7: numbers from 1 on, in the order of their first occurrence.
func TestRenumberValues(t *testing.T) {
	for i, x := range []struct{ f, want []api.Item }{
		{nil, nil}, {list(text("a"), text("b")), list(text("ab"))}, {list(open(3, "b"), text("a"), empty(1, "br"), text("b"), shut(3, "b"), slot("n")), list(open(1, "b"), text("a"), empty(2, "br"), text("b"), shut(1, "b"), slot("n"))}, {list(open(1, "a"), open(2, "a")), list(open(1, "a"), open(2, "a"))}, {list(open(2, "a"), open(1, "a"), shut(1, "a"), shut(2, "a")), list(open(1, "a"), open(2, "a"), shut(2, "a"), shut(1, "a"))},
		{list(other(9, "x", 5), empty(math.MaxInt, ""), other(api.Slot, "n", 7), empty(-3, ""), text(""), empty(math.MinInt, "")), list(other(9, "x", 5), empty(1, ""), other(api.Slot, "n", 7), empty(2, ""), empty(3, ""))},
	} {
		if got := item.Renumber(x.f); !slices.Equal(got, x.want) {
			t.Errorf("%d: Renumber(%v) = %v", i, x.f, got)
		}
	}
}

// P3.7: the numbers of source first, then the new ones of target.
func TestCanonicalValues(t *testing.T) {
	for i, x := range []struct{ source, target, s, t []api.Item }{
		{nil, nil, nil, nil}, {list(open(5, "b"), shut(5, "b")), list(empty(2, "br"), open(5, "b"), shut(5, "b")), list(open(1, "b"), shut(1, "b")), list(empty(2, "br"), open(1, "b"), shut(1, "b"))}, {nil, list(empty(9, "br"), empty(4, "br")), nil, list(empty(1, "br"), empty(2, "br"))}, {list(empty(9, "br"), empty(4, "br")), nil, list(empty(1, "br"), empty(2, "br")), nil},
		{list(empty(4, "a"), empty(8, "b"), empty(4, "c")), list(empty(7, "d"), empty(8, "b"), empty(6, "e"), empty(7, "f"), empty(4, "a")), list(empty(1, "a"), empty(2, "b"), empty(1, "c")), list(empty(3, "d"), empty(2, "b"), empty(4, "e"), empty(3, "f"), empty(1, "a"))},
		{list(text("a"), text("b"), empty(2, "a")), list(text(""), other(api.Text, "c", 2), other(9, "d", 1)), list(text("ab"), empty(1, "a")), list(text("c"), other(9, "d", 1))}, {list(open(1, "a"), empty(2, "b"), shut(1, "a")), list(empty(2, "b"), open(1, "a"), shut(1, "a")), list(open(1, "a"), empty(2, "b"), shut(1, "a")), list(empty(2, "b"), open(1, "a"), shut(1, "a"))}, {list(empty(math.MinInt, "a")), list(empty(math.MaxInt, "a"), empty(math.MinInt, "a")), list(empty(1, "a")), list(empty(2, "a"), empty(1, "a"))},
	} {
		gotS, gotT := item.Canonical(x.source, x.target)
		if !slices.Equal(gotS, x.s) || !slices.Equal(gotT, x.t) {
			t.Errorf("%d: Canonical(%v, %v) = %v, %v", i, x.source, x.target, gotS, gotT)
		}
	}
}

// P3.8: several possible partners, none, and the first tag of a number.
func TestPairValues(t *testing.T) {
	for i, x := range []struct {
		a, b     []api.Item
		from, to []int
	}{
		{nil, nil, nil, nil}, {nil, list(open(1, "b")), nil, nil}, {list(open(1, "b")), nil, nil, nil}, {list(open(1, "b")), list(open(1, "b")), []int{1}, []int{1}},
		// Each number of b serves once, in the order of b.
		{list(open(4, "b"), open(7, "b")), list(open(1, "b"), open(2, "i"), open(3, "b")), []int{4, 7}, []int{1, 3}}, {list(open(4, "b"), open(7, "b"), open(5, "b")), list(open(9, "b"), open(8, "b")), []int{4, 7}, []int{9, 8}}, {list(open(4, "b")), list(open(9, "b"), open(4, "b")), []int{4}, []int{9}}, {list(open(2, "b"), open(1, "b")), list(open(1, "b"), open(2, "b")), []int{2, 1}, []int{1, 2}}, {list(empty(1, "i"), empty(2, "b"), empty(3, "i")), list(empty(3, "b"), empty(5, "i"), empty(4, "i")), []int{1, 2, 3}, []int{5, 3, 4}},
		// Kind and text decide, not the number.
		{list(open(1, "b"), empty(2, "b"), open(3, "b")), list(empty(8, "b"), open(9, "b")), []int{1, 2}, []int{9, 8}}, {list(open(1, "b x")), list(open(1, "b y")), nil, nil}, {list(open(1, "b")), list(open(1, "b x")), nil, nil}, {list(open(1, "b")), list(empty(1, "b")), nil, nil}, {list(open(1, "b")), list(shut(1, "b")), nil, nil},
		// Only the first tag of a number counts.
		{list(open(1, "b"), shut(1, "b")), list(shut(1, "b"), open(1, "b")), nil, nil}, {list(open(1, "b"), shut(1, "b")), list(shut(2, "b"), open(1, "b")), []int{1}, []int{1}}, {list(shut(5, "b"), open(2, "i")), list(open(1, "i"), shut(1, "i"), shut(2, "b")), []int{5, 2}, []int{2, 1}}, {list(empty(1, "a"), empty(1, "b")), list(empty(3, "b"), empty(2, "a"), empty(2, "b")), []int{1}, []int{2}},
		// Slots, text and unknown kinds are not tags.
		{list(slot("n"), text("n"), other(9, "n", 3)), list(slot("n"), text("n"), other(9, "n", 3)), nil, nil}, {list(empty(math.MinInt, ""), empty(0, "")), list(empty(math.MaxInt, ""), empty(-1, "")), []int{math.MinInt, 0}, []int{math.MaxInt, -1}},
	} {
		if from, to := item.Pair(x.a, x.b); !slices.Equal(from, x.from) || !slices.Equal(to, x.to) {
			t.Errorf("%d: Pair(%v, %v) = %v, %v", i, x.a, x.b, from, to)
		}
	}
}
