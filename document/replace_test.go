package document_test

import (
	"math"
	"slices"
	"strings"
	"testing"

	"bitext/api"
	"bitext/document"
	"bitext/item"
)

// edit is a range with its target.
type edit struct {
	from, to int
	target   []api.Item
}

// divide returns the ranges and the targets of some edits.
func divide(edits []edit) (ranges []api.Range, targets [][]api.Item) {
	for _, x := range edits {
		ranges = append(ranges, api.Range{From: x.from, To: x.to})
		targets = append(targets, x.target)
	}
	return ranges, targets
}

// replace checks what becomes of a raw content, and all that P10.5 says of it.
func replace(t *testing.T, format int, raw, want string, edits ...edit) {
	t.Helper()
	ranges, targets := divide(edits)
	data := framed(format, "", raw)
	d := parsed(t, format, data)
	got, e := checkReplace(t, d, middle, ranges, targets)
	if e != api.OK || document.Bytes(got) != framed(format, "", want) {
		t.Errorf("%.120q with %s is %s, %d, not %.120q", raw, brief(edits), brief(got), e, want)
	}
	if document.Bytes(d) != data {
		t.Errorf("%.120q with %s changes the document: %s", raw, brief(edits), brief(d))
	}
}

// noReplace checks that Replace returns an error, and nothing else.
func noReplace(t *testing.T, d api.Document, part int, want api.Errno, ranges []api.Range, targets ...[]api.Item) {
	t.Helper()
	if got, e := checkReplace(t, d, part, ranges, targets); got.Format != 0 || len(got.Parts) != 0 || e != want {
		t.Errorf("Replace(%s, %d, %v, %s) = %s, %d, not %d", brief(d), part, ranges, brief(targets), brief(got), e, want)
	}
}

// refuse checks that the edits of a raw content are an error.
func refuse(t *testing.T, format int, raw string, want api.Errno, edits ...edit) {
	t.Helper()
	ranges, targets := divide(edits)
	noReplace(t, parsed(t, format, framed(format, "", raw)), middle, want, ranges, targets...)
}

// P10.4: the examples, and ordinary units.
func TestReplaceValues(t *testing.T) {
	replace(t, api.Markup, "Hello <b>x</b>", "Salut <b>x</b>", edit{0, 5, list(text("Salut"))})
	replace(t, api.Markup, "Hello <b>world</b>, {name}!", "<b>Monde</b>, {name} : salut", edit{0, 13, list(open(1, "b"), text("Monde"), closing(1, "b"))}, edit{16, 17, list(text(" : salut"))})
	replace(t, api.Markup, "One. Two. <i>Three</i>.", "Un. Deux. <i>Trois</i>.", edit{0, 4, list(text("Un."))}, edit{5, 9, list(text("Deux."))}, edit{10, 18, list(open(1, "i"), text("Trois"), closing(1, "i"), text("."))})
	replace(t, api.Resource, "Open {name}\\nnow", "Ouvrir\\n{name}", edit{0, 10, list(text("Ouvrir\n"), slot("name"))})
	replace(t, api.Resource, "One.\\\n  Two.", "Un.Deux.", edit{0, 4, list(text("Un."))}, edit{4, 8, list(text("Deux."))})
	replace(t, api.Resource, "One. \\\n  Two.", "Un. \\\n  Two.", edit{0, 4, list(text("Un."))})
	replace(t, api.Sheet, "x", "a\"\"b", edit{0, 1, list(text("a\"b"))})
	replace(t, api.Sheet, "Say \"\"{x}\"\"!", "Dis \"\"{x}\"\" !", edit{0, 3, list(text("Dis"))}, edit{7, 8, list(text(" !"))})
	replace(t, api.Sheet, "a\n{{b}", "{n},\n{{b}", edit{0, 1, list(slot("n"), text(","))})
}

// P10.4 and P10.5: no range, with whatever the unit is written.
func TestReplaceNothing(t *testing.T) {
	for format, all := range map[int][]string{
		api.Markup:   {"", "a", "&gt;&rb;}>", "<b x><i/>{n}</b>", "\"\\\n"},
		api.Resource: {"", "a", "\\s \\\n \t", "\\\n\\\n", "{n}\\n&lt;\""},
		api.Sheet:    {"", "a", "\"\"{{{n}", "\n,\\n"},
	} {
		for _, raw := range append(all, raws[format]...) {
			replace(t, format, raw, raw)
			d := parsed(t, format, framed(format, "", raw))
			for _, part := range document.Units(d) {
				if got, e := checkReplace(t, d, part, []api.Range{}, [][]api.Item{}); !same(got, d) || e != api.OK {
					t.Errorf("Replace of nothing in %+v = %+v, %d", d, got, e)
				}
			}
		}
	}
}

// P10.4: a text before every position; a continuation and a reference belong to
// what follows and what they stand for.
func TestReplaceEveryPosition(t *testing.T) {
	for _, x := range []struct {
		format int
		raw    string
		want   []string
	}{
		{api.Markup, "", []string{"Z"}},
		{api.Markup, "a&lt;<b>{n}</b>", []string{"Za&lt;<b>{n}</b>", "aZ&lt;<b>{n}</b>", "a&lt;Z<b>{n}</b>", "a&lt;<b>Z{n}</b>", "a&lt;<b>{n}Z</b>", "a&lt;<b>{n}</b>Z"}},
		{api.Markup, "&gt;<br/>", []string{"Z&gt;<br/>", "&gt;Z<br/>", "&gt;<br/>Z"}},
		{api.Resource, "", []string{"Z"}},
		{api.Resource, "a\\\n \\n{n}\\\n", []string{"Za\\\n \\n{n}\\\n", "aZ\\\n \\n{n}\\\n", "a\\\n \\nZ{n}\\\n", "a\\\n \\n{n}Z\\\n"}},
		{api.Resource, "\\\n \\\n\t x\\\n\\\n{n}", []string{"Z\\\n \\\n\t x\\\n\\\n{n}", "\\\n \\\n\t xZ\\\n\\\n{n}", "\\\n \\\n\t x\\\n\\\n{n}Z"}},
		{api.Resource, "\\\n ", []string{"Z\\\n "}},
		{api.Resource, "\\s \\\\", []string{"Z\\s \\\\", "\\sZ \\\\", "\\s Z\\\\", "\\s \\\\Z"}},
		{api.Sheet, "", []string{"Z"}},
		{api.Sheet, "a\"\"{{{n}", []string{"Za\"\"{{{n}", "aZ\"\"{{{n}", "a\"\"Z{{{n}", "a\"\"{{Z{n}", "a\"\"{{{n}Z"}},
		{api.Sheet, "\n,{n}", []string{"Z\n,{n}", "\nZ,{n}", "\n,Z{n}", "\n,{n}Z"}},
	} {
		for i, want := range x.want {
			replace(t, x.format, x.raw, want, edit{i, i, list(text("Z"))})
			replace(t, x.format, x.raw, x.raw, edit{i, i, nil})
		}
		refuse(t, x.format, x.raw, api.ErrArgument, edit{len(x.want), len(x.want), list(text("Z"))})
	}
}

// P10.4: one position after the other is replaced, and left out.
func TestReplaceEachPosition(t *testing.T) {
	for _, x := range []struct {
		format        int
		raw           string
		with, without []string
	}{
		{api.Markup, "a&lt;<br/>{n}", []string{"Z&lt;<br/>{n}", "aZ<br/>{n}", "a&lt;Z{n}", "a&lt;<br/>Z"}, []string{"&lt;<br/>{n}", "a<br/>{n}", "a&lt;{n}", "a&lt;<br/>"}},
		{api.Resource, "a\\\n \\n{n}b\\\n", []string{"Z\\\n \\n{n}b\\\n", "aZ{n}b\\\n", "a\\\n \\nZb\\\n", "a\\\n \\n{n}Z\\\n"}, []string{"\\\n \\n{n}b\\\n", "a{n}b\\\n", "a\\\n \\nb\\\n", "a\\\n \\n{n}\\\n"}},
		{api.Resource, "\\\n a\\\n\\\n{n}", []string{"Z\\\n\\\n{n}", "\\\n aZ"}, []string{"\\\n\\\n{n}", "\\\n a"}},
		{api.Sheet, "a\"\"{{{n}", []string{"Z\"\"{{{n}", "aZ{{{n}", "a\"\"Z{n}", "a\"\"{{Z"}, []string{"\"\"{{{n}", "a{{{n}", "a\"\"{n}", "a\"\"{{"}},
	} {
		for i := range x.with {
			replace(t, x.format, x.raw, x.with[i], edit{i, i + 1, list(text("Z"))})
			replace(t, x.format, x.raw, x.without[i], edit{i, i + 1, nil})
		}
	}
}

// P10.4: one range over the whole unit; continuations at its end stay.
func TestReplaceWhole(t *testing.T) {
	for _, x := range []struct {
		format, length int
		raw, behind    string
	}{
		{api.Markup, 0, "", ""}, {api.Markup, 3, "abc", ""}, {api.Markup, 6, "<b>&lt;{n}</b>&rb;<i/>", ""},
		{api.Resource, 0, "", ""}, {api.Resource, 3, "abc", ""}, {api.Resource, 3, "\\\n a\\s\\\n{n}", ""}, {api.Resource, 1, "a\\\n \t", "\\\n \t"}, {api.Resource, 1, "{n}\\\n\\\n", "\\\n\\\n"}, {api.Resource, 0, "\\\n\\\n ", "\\\n\\\n "},
		{api.Sheet, 0, "", ""}, {api.Sheet, 3, "abc", ""}, {api.Sheet, 4, "\"\"{{{n},", ""},
	} {
		replace(t, x.format, x.raw, x.behind, edit{0, x.length, nil})
		replace(t, x.format, x.raw, "new"+x.behind, edit{0, x.length, list(text("new"))})
		replace(t, x.format, x.raw, "{m}n{m}"+x.behind, edit{0, x.length, list(slot("m"), text("n"), slot("m"))})
		long := strings.Repeat("z", api.MaxLength)
		replace(t, x.format, x.raw, long+x.behind, edit{0, x.length, list(text(long))})
	}
	replace(t, api.Markup, "a", "<b><i x=\"1\">c</i></b><br/>", edit{0, 1, list(open(1, "b"), open(2, "i x=\"1\""), text("c"), closing(2, "i"), closing(1, "b"), empty(3, "br"))})
}

// P10.4: ranges at both ends, ranges that touch, and empty ranges among them.
func TestReplaceSeveral(t *testing.T) {
	a, b, c := list(text("A")), list(text("BB")), list(text("C"))
	for format := range formats {
		replace(t, format, "wxyz", "AxyC", edit{0, 1, a}, edit{3, 4, c})
		replace(t, format, "wxyz", "AwxyzC", edit{0, 0, a}, edit{4, 4, c})
		replace(t, format, "wxyz", "xy", edit{0, 1, nil}, edit{3, 4, nil})
		replace(t, format, "wxyz", "ABBC", edit{0, 1, a}, edit{1, 3, b}, edit{3, 4, c})
		replace(t, format, "wxyz", "wABBz", edit{1, 2, a}, edit{2, 3, b})
		replace(t, format, "wxyz", "ABBCxyz", edit{0, 0, a}, edit{0, 1, b}, edit{1, 1, c})
		replace(t, format, "wxyz", "wABBCxyz", edit{1, 1, a}, edit{1, 1, b}, edit{1, 1, c})
		replace(t, format, "wxyz", "wxyzCBBA", edit{4, 4, c}, edit{4, 4, b}, edit{4, 4, a})
		replace(t, format, "wxyz", "wxABByCz", edit{2, 2, a}, edit{2, 2, b}, edit{3, 3, c})
		replace(t, format, "wxyz", "", edit{0, 2, nil}, edit{2, 4, nil})
		replace(t, format, "wxyz", "A", edit{0, 4, nil}, edit{4, 4, a})
		replace(t, format, "wxyz", "AwBBxCyAz", edit{0, 0, a}, edit{1, 1, b}, edit{2, 2, c}, edit{3, 3, a}, edit{4, 4, nil})
		replace(t, format, "", "ABBC", edit{0, 0, a}, edit{0, 0, b}, edit{0, 0, c})
		replace(t, format, "w{n}z", "w{m}{n}{l}z", edit{1, 1, list(slot("m"))}, edit{2, 2, list(slot("l"))})
		replace(t, format, "w{n}z", "{n}{n}{n}", edit{0, 1, list(slot("n"))}, edit{2, 3, list(slot("n"))})
	}
}

// P10.4: very many empty ranges at one place.
func TestReplaceManyRanges(t *testing.T) {
	const n = 100000
	for format := range formats {
		d := parsed(t, format, framed(format, "", "ab{n}"))
		ranges, targets := slices.Repeat([]api.Range{{From: 1, To: 1}}, n), make([][]api.Item, n)
		if got, e := document.Replace(d, middle, ranges, targets); !same(got, d) || e != api.OK {
			t.Errorf("%d: %s, %d", format, brief(got), e)
		}
		targets[n-1] = list(text("x"))
		if got, e := document.Replace(d, middle, ranges, targets); document.Bytes(got) != framed(format, "", "axb{n}") || e != api.OK {
			t.Errorf("%d: %s, %d", format, brief(got), e)
		}
		for i := range targets {
			targets[i] = list(text("xyz"), slot("n"))
		}
		if got, e := document.Replace(d, middle, ranges, targets); !same(got, api.Document{}) || e != api.ErrLimit {
			t.Errorf("%d: %s, %d", format, brief(got), e)
		}
	}
}

// P10.4: the bytes that each format writes otherwise.
func TestReplaceEscapes(t *testing.T) {
	all := "a<b>&{}\\\n\t\r \",;/x"
	for format, want := range map[int]string{
		api.Markup:   "a&lt;b>&amp;&lb;}\\\n\t\r \",;/x",
		api.Resource: "a<b>&\\{}\\\\\\n\\t\\r \",;/x",
		api.Sheet:    "a<b>&{{}\\\n\t\r \"\",;/x",
	} {
		replace(t, format, "xy", "x"+want+"y", edit{1, 1, list(text(all))})
		replace(t, format, "xy", want+"y", edit{0, 1, list(text(all))})
		replace(t, format, "xy", want+"{n}"+want, edit{0, 2, list(text(all), slot("n"), text(all))})
		replace(t, format, "{n}", want+"{n}"+want, edit{0, 0, list(text(all))}, edit{1, 1, list(text(all))})
	}
	for _, b := range []string{"\x00", "\x01", "\x7f", "\x80", "\xff", "é", "'", "#", "="} {
		for format := range formats {
			replace(t, format, "xy", "x"+b+"y", edit{1, 1, list(text(b))})
		}
	}
}

// P10.4: bytes that would be something else together with those beside them, if
// they were not written as they must be.
func TestReplaceJoins(t *testing.T) {
	for _, x := range []struct {
		format    int
		raw       string
		at        int
		s         string
		want, all string
	}{
		{api.Markup, "lt;", 0, "&", "&amp;lt;", "&lt;"}, {api.Markup, "&amp;", 1, "lt;", "&amp;lt;", "&lt;"}, {api.Markup, "&amp;;", 1, "lt", "&amp;lt;", "&lt;"}, {api.Markup, "b>", 0, "<", "&lt;b>", "<b>"}, {api.Markup, "&lt;", 1, "b>", "&lt;b>", "<b>"}, {api.Markup, "/p>", 0, "<", "&lt;/p>", "</p>"}, {api.Markup, "&lt;", 1, "/p>", "&lt;/p>", "</p>"}, {api.Markup, "&lt;>", 1, "!----", "&lt;!---->", "<!---->"}, {api.Markup, "n}", 0, "{", "&lb;n}", "{n}"}, {api.Markup, "&lb;", 1, "n}", "&lb;n}", "{n}"}, {api.Markup, "&lb;}", 1, "n", "&lb;n}", "{n}"}, {api.Markup, "&lb;&rb;", 1, "n", "&lb;n&rb;", "{n}"}, {api.Markup, "a", 1, "</p><p>", "a&lt;/p>&lt;p>", "a</p><p>"},
		{api.Resource, "n", 0, "\\", "\\\\n", "\\n"}, {api.Resource, "\\\\", 1, "n", "\\\\n", "\\n"}, {api.Resource, "\\\\", 1, "\n", "\\\\\\n", "\\\n"}, {api.Resource, "\\n", 0, "\\", "\\\\\\n", "\\\n"}, {api.Resource, "n}", 0, "{", "\\{n}", "{n}"}, {api.Resource, "\\{", 1, "n}", "\\{n}", "{n}"}, {api.Resource, "\\{}", 1, "n", "\\{n}", "{n}"}, {api.Resource, "\\{", 0, "\\", "\\\\\\{", "\\{"}, {api.Resource, "a", 1, "\nb=c", "a\\nb=c", "a\nb=c"}, {api.Resource, "", 0, "=", "=", "="}, {api.Resource, "", 0, "#", "#", "#"},
		{api.Sheet, "\"\"", 0, "\"", "\"\"\"\"", "\"\""}, {api.Sheet, "\"\"", 1, "\"", "\"\"\"\"", "\"\""}, {api.Sheet, "n}", 0, "{", "{{n}", "{n}"}, {api.Sheet, "{{", 1, "n}", "{{n}", "{n}"}, {api.Sheet, "{{}", 1, "n", "{{n}", "{n}"}, {api.Sheet, "{{", 1, "{", "{{{{", "{{"}, {api.Sheet, ",", 0, "\"", "\"\",", "\","}, {api.Sheet, "a", 1, "\"\n\"", "a\"\"\n\"\"", "a\"\n\""}, {api.Sheet, "", 0, "\"", "\"\"", "\""}, {api.Sheet, "{{n", 2, "}", "{{n}", "{n}"},
	} {
		replace(t, x.format, x.raw, x.want, edit{x.at, x.at, list(text(x.s))})
		got, e := document.Content(parsed(t, x.format, framed(x.format, "", x.want)), middle)
		if !slices.Equal(got, list(text(x.all))) || e != api.OK {
			t.Errorf("%q is %v, %d, not %q", x.want, got, e, x.all)
		}
	}
	// Beside placeholders.
	replace(t, api.Markup, "{n}", "&lb;{n}}", edit{0, 0, list(text("{"))}, edit{1, 1, list(text("}"))})
	replace(t, api.Resource, "{n}", "\\{{n}}", edit{0, 0, list(text("{"))}, edit{1, 1, list(text("}"))})
	replace(t, api.Sheet, "{n}", "{{{n}}", edit{0, 0, list(text("{"))}, edit{1, 1, list(text("}"))})
	replace(t, api.Sheet, "{{", "{{{n}{{", edit{1, 1, list(slot("n"), text("{"))})
	replace(t, api.Resource, "\\\\", "\\\\{n}\\\\", edit{1, 1, list(slot("n"), text("\\"))})
}

// P10.4: continuations beside ranges and within them. Spaces and line ends of a
// target do not get behind one that stays.
func TestReplaceContinuations(t *testing.T) {
	for _, x := range []struct {
		raw, want string
		edits     []edit
	}{
		{"a\\\n  b", "a \\\n  b", []edit{{1, 1, list(text(" "))}}}, {"a\\\n  b", "a ", []edit{{1, 2, list(text(" "))}}}, {"a\\\n  b", "a\\\n  b ", []edit{{2, 2, list(text(" "))}}}, {"a\\\n  b", " \\\n  b", []edit{{0, 1, list(text(" "))}}}, {"a\\\n  b", "\\\n  b", []edit{{0, 1, nil}}}, {"a\\\n  b", "\t", []edit{{0, 2, list(text("\t"))}}}, {"a\\\n  b\\\n ", "a\\\n  b\\t\\\n ", []edit{{2, 2, list(text("\t"))}}}, {"a\\\n  b\\\n ", "a\\\n ", []edit{{1, 2, nil}}}, {"a\\\n  b\\\n ", "a\\\\\\\n ", []edit{{1, 2, list(text("\\"))}}}, {"a\\\n", "a\\n\\\n", []edit{{1, 1, list(text("\n"))}}}, {"\\\n\\\n", " x \\\n\\\n", []edit{{0, 0, list(text(" x "))}}}, {"\\\n a", "  \\\n a", []edit{{0, 0, list(text("  "))}}}, {"\\\n a", "  ", []edit{{0, 1, list(text("  "))}}}, {"a\\\nb\\\nc", "aX\\\nc", []edit{{1, 2, list(text("X"))}}}, {"a\\\nb\\\nc", "aXY", []edit{{1, 2, list(text("X"))}, {2, 3, list(text("Y"))}}}, {"a\\\n{n}\\\n\\s", "a{m}\\\n\\s", []edit{{1, 2, list(slot("m"))}}}, {"{n}\\\n\t{m}", "{n} \\\n\t{m}", []edit{{1, 1, list(text(" "))}}},
	} {
		want := x.want
		if want == "\t" {
			want = "\\t"
		}
		replace(t, api.Resource, x.raw, want, x.edits...)
	}
}

// P10.4: references and doubled bytes beside ranges stay as they are written;
// those within are written as Encode writes them.
func TestReplaceReferences(t *testing.T) {
	replace(t, api.Markup, "&gt;&rb;&lt;", "&gt;x&lt;", edit{1, 2, list(text("x"))})
	replace(t, api.Markup, "&gt;&rb;&lt;", "&gt;}&lt;", edit{1, 2, list(text("}"))})
	replace(t, api.Markup, "&gt;&rb;&lt;", ">}&lt;", edit{0, 3, list(text(">}<"))})
	replace(t, api.Markup, "&gt;a&gt;", ">a&gt;", edit{0, 1, list(text(">"))})
	replace(t, api.Markup, "<b>&gt;</b>&lb;", "&amp;gt;&lb;", edit{0, 3, list(text("&gt;"))})
	replace(t, api.Sheet, "\"\"{{\"\"", "\"\"x\"\"", edit{1, 2, list(text("x"))})
	replace(t, api.Sheet, "\"\"{{\"\"", "{{{{\"\"", edit{0, 1, list(text("{"))})
	replace(t, api.Resource, "\\s\\n\\s", "\\s \\s", edit{1, 2, list(text(" "))})
}

// P10.5: ranges that are replaced by what they contain are written otherwise where
// the format has several ways, and Content shows no change.
func TestReplaceByItself(t *testing.T) {
	for _, x := range []struct {
		format    int
		raw, want string
	}{
		{api.Markup, "a&gt;b", "a>b"}, {api.Markup, "&rb;", "}"}, {api.Markup, "&lt;&amp;&lb;", "&lt;&amp;&lb;"}, {api.Markup, "<b x>a</b>{n}<i/>", "<b x>a</b>{n}<i/>"}, {api.Markup, "<b><b>a</b></b><b></b>", "<b><b>a</b></b><b></b>"},
		{api.Resource, "a\\sb", "a b"}, {api.Resource, "\t", "\\t"}, {api.Resource, "\r\\r\\n\\\\\\{", "\\r\\r\\n\\\\\\{"}, {api.Resource, "\\\n a\\\n\\\nb", "ab"}, {api.Resource, "\\\n a\\\n\\\nb\\\n", "ab\\\n"}, {api.Resource, "{n}\\\n{m}", "{n}{m}"},
		{api.Sheet, "a\"\"b", "a\"\"b"}, {api.Sheet, "{{{n}", "{{{n}"}, {api.Sheet, "\n,\t", "\n,\t"},
	} {
		d := parsed(t, x.format, framed(x.format, "", x.raw))
		f, _ := document.Content(d, middle)
		n := item.Length(f)
		replace(t, x.format, x.raw, x.want, edit{0, n, f})
		for at := range n + 1 {
			left, _ := item.Slice(f, 0, at)
			right, _ := item.Slice(f, at, n)
			replace(t, x.format, x.raw, x.want, edit{0, at, left}, edit{at, n, right})
			checkKept(t, d, middle, f, []api.Range{{From: 0, To: at}})
			checkKept(t, d, middle, f, []api.Range{{From: at, To: n}})
			checkKept(t, d, middle, f, []api.Range{{From: at, To: at}, {From: at, To: at}})
		}
	}
}

// P10.4: targets with tags. Their numbers may be any, but tags that have nothing to
// do with each other have different ones, in the targets and in the rest.
func TestReplaceTags(t *testing.T) {
	b := func(n int, s string) []api.Item { return list(open(n, "b"), text(s), closing(n, "b")) }
	replace(t, api.Markup, "a", "<b>z</b>", edit{0, 1, b(999, "z")})
	replace(t, api.Markup, "a<i>x</i>", "<b>z</b><i>x</i>", edit{0, 1, b(2, "z")})
	replace(t, api.Markup, "a<i>x</i>c", "a<i>x</i><b>z</b>", edit{4, 5, b(2, "z")})
	replace(t, api.Markup, "a<i>x</i>c", "<b>y</b><i>x</i><b>z</b>", edit{0, 1, b(3, "y")}, edit{4, 5, b(2, "z")})
	replace(t, api.Markup, "<b>x</b>", "<b>z</b>", edit{0, 3, b(1, "z")})
	replace(t, api.Markup, "<b>x</b>", "<b>z</b>", edit{0, 3, b(5, "z")})
	replace(t, api.Markup, "<b>x</b>", "<i>x</i>", edit{0, 1, list(open(1, "i"))}, edit{2, 3, list(closing(1, "i"))})
	replace(t, api.Markup, "<b>x</b>", "<i y>x</i>", edit{0, 1, list(open(7, "i y"))}, edit{2, 3, list(closing(7, "i"))})
	replace(t, api.Markup, "<b>x</b>", "x", edit{0, 1, nil}, edit{2, 3, nil})
	replace(t, api.Markup, "<b>x</b>", "<b y>x</b>", edit{0, 1, list(open(1, "b y"))})
	replace(t, api.Markup, "<b>x</b>", "<b>x<br/><i/></b>", edit{2, 2, list(empty(3, "br"), empty(2, "i"))})
	replace(t, api.Markup, "<b>x</b>", "<b></b>x<b></b>", edit{1, 1, list(closing(1, "b"))}, edit{2, 3, list(open(2, "b"), closing(2, "b"))})
}

// P10.4: targets with the numbers of other tags of the unit, or of other targets.
func TestReplaceTakenNumbers(t *testing.T) {
	b := func(n int, s string) []api.Item { return list(open(n, "b"), text(s), closing(n, "b")) }
	for _, x := range []struct {
		raw   string
		edits []edit
	}{
		{"a<b>x</b>", []edit{{0, 1, b(1, "z")}}}, {"a<i>x</i>", []edit{{0, 1, b(1, "z")}}}, {"<b>x</b>a", []edit{{3, 4, b(1, "z")}}}, {"<b>x</b>", []edit{{1, 2, b(1, "z")}}}, {"<b>x</b>", []edit{{1, 1, list(empty(1, "br"))}}}, {"<br/>", []edit{{1, 1, list(empty(1, "br"))}}}, {"<br/>a", []edit{{1, 2, b(1, "z")}}}, {"ac", []edit{{0, 1, b(1, "y")}, {1, 2, b(1, "z")}}}, {"ac", []edit{{0, 1, list(empty(1, "br"))}, {1, 2, list(empty(1, "br"))}}}, {"<b>x</b>", []edit{{0, 1, list(open(2, "b"))}}}, {"<b>x</b>", []edit{{2, 3, list(closing(2, "b"))}}}, {"a", []edit{{0, 0, list(open(1, "b"))}, {1, 1, list(closing(2, "b"))}}}, {"<b>x</b>", []edit{{1, 2, list(closing(1, "b"), open(2, "b"))}}}, {"<b><b>x</b></b>", []edit{{2, 3, list(closing(1, "b"), closing(2, "b"))}, {3, 5, nil}}}, {"<b>x</b><b>y</b>", []edit{{2, 3, list(closing(2, "b"))}, {5, 6, list(closing(1, "b"))}}},
	} {
		refuse(t, api.Markup, x.raw, api.ErrConflict, x.edits...)
	}
	// The other formats have no tags, so that every target that they can write is
	// the fragment that was asked for.
	for _, format := range []int{api.Resource, api.Sheet} {
		replace(t, format, "a<b>x</b>", "<b>z</b><b>x</b>", edit{0, 1, list(text("<b>z</b>"))})
	}
}

// P10.4: targets that can be written, but with which the unit cannot be read.
func TestReplaceUnreadable(t *testing.T) {
	for _, x := range []struct {
		raw   string
		edits []edit
	}{
		{"a", []edit{{0, 1, list(open(1, "b"))}}}, {"a", []edit{{0, 1, list(closing(1, "b"))}}}, {"a", []edit{{0, 0, list(text("x"), open(1, "b"), text("y"))}}}, {"<b>x</b>", []edit{{0, 1, nil}}}, {"<b>x</b>", []edit{{2, 3, nil}}}, {"<b>x</b>", []edit{{1, 3, list(text("z"))}}}, {"<b>x</b>", []edit{{0, 1, list(open(1, "i"))}}}, {"<b>x</b>", []edit{{2, 3, list(closing(1, "i"))}}}, {"<b>x</b>", []edit{{1, 2, list(open(2, "i"))}}}, {"<b>x</b>", []edit{{0, 1, list(empty(1, "b"))}}}, {"<b><i>x</i></b>", []edit{{3, 4, list(closing(1, "b"))}, {4, 5, list(closing(2, "i"))}}}, {"ab", []edit{{0, 0, list(closing(1, "b"))}, {1, 1, list(open(1, "b"))}}}, {"a", []edit{{0, 1, list(open(1, "b"), open(2, "i"), closing(1, "b"), closing(2, "i"))}}},
	} {
		refuse(t, api.Markup, x.raw, api.ErrTag, x.edits...)
	}
}

// P10.4: units of exactly MaxItems items or MaxLength positions, and of one more.
func TestReplaceUnitLimits(t *testing.T) {
	n, m := api.MaxLength, api.MaxItems
	x := func(n int) string { return strings.Repeat("x", n) }
	slots := func(n int) string { return strings.Repeat("{n}", n) }
	for format := range formats {
		replace(t, format, x(n-2), x(n), edit{5, 5, list(text("xx"))})
		refuse(t, format, x(n-2), api.ErrLimit, edit{5, 5, list(text("xxx"))})
		replace(t, format, x(n-2), "{n}"+x(n-2)+"{n}", edit{0, 0, list(slot("n"))}, edit{n - 2, n - 2, list(slot("n"))})
		refuse(t, format, x(n-2), api.ErrLimit, edit{0, 0, list(slot("n"))}, edit{n - 2, n - 2, list(slot("n"), text("y"))})
		replace(t, format, x(n), "y"+x(n-1), edit{0, 1, list(text("y"))})
		refuse(t, format, x(n), api.ErrLimit, edit{0, 1, list(text("yy"))})
		refuse(t, format, x(n), api.ErrLimit, edit{n, n, list(text("y"))})
		replace(t, format, x(n), strings.Repeat("y", n), edit{0, n, list(text(strings.Repeat("y", n)))})
		replace(t, format, x(n), x(n/2)+strings.Repeat("y", n/2), edit{n / 2, n, list(text(strings.Repeat("y", n/2)))})
		replace(t, format, "", x(n), edit{0, 0, list(text(x(n)))})
		refuse(t, format, "", api.ErrLimit, edit{0, 0, list(text(x(n)))}, edit{0, 0, list(text("x"))})
		refuse(t, format, "", api.ErrLimit, edit{0, 0, list(text(x(n + 1)))})
		replace(t, format, slots(m-1), slots(m), edit{7, 7, list(slot("n"))})
		refuse(t, format, slots(m-1), api.ErrLimit, edit{7, 7, list(slot("n"), slot("n"))})
		replace(t, format, slots(m-1), slots(7)+"x"+slots(m-8), edit{7, 7, list(text("x"))})
		refuse(t, format, slots(m), api.ErrLimit, edit{7, 7, list(text("x"))})
		replace(t, format, slots(m-1), slots(m-1)+"xy", edit{m - 1, m - 1, list(text("xy"))})
		refuse(t, format, slots(m-1), api.ErrLimit, edit{m - 1, m - 1, list(text("x"), slot("n"))})
		replace(t, format, slots(m-2)+"ab", slots(m-2)+"axyb", edit{m - 1, m - 1, list(text("xy"))})
		replace(t, format, slots(m-2)+"ab", slots(m-2)+"abxy{n}", edit{m, m, list(text("xy"), slot("n"))})
		refuse(t, format, slots(m-2)+"ab", api.ErrLimit, edit{m - 1, m - 1, list(slot("n"))})
		replace(t, format, slots(m), slots(m), edit{0, m, slices.Repeat(list(slot("n")), m)})
		refuse(t, format, slots(m), api.ErrLimit, edit{m, m, list(slot("n"))})
		replace(t, format, slots(m), slots(m-1)+"{z}", edit{m - 1, m, list(slot("z"))})
		refuse(t, format, "", api.ErrLimit, edit{0, 0, slices.Repeat(list(slot("n")), m+1)})
	}
	replace(t, api.Markup, strings.Repeat("<br/>", m-1), strings.Repeat("<br/>", m), edit{0, 0, list(empty(999, "br"))})
	refuse(t, api.Markup, strings.Repeat("<br/>", m-1), api.ErrLimit, edit{0, 0, list(empty(999, "br"), slot("n"))})
	replace(t, api.Markup, strings.Repeat("&lt;", n-1), strings.Repeat("&lt;", n), edit{9, 9, list(text("<"))})
	refuse(t, api.Markup, strings.Repeat("&lt;", n-1), api.ErrLimit, edit{9, 9, list(text("<<"))})
	replace(t, api.Resource, strings.Repeat("\\n", n-1), strings.Repeat("\\n", n), edit{9, 9, list(text("\n"))})
	refuse(t, api.Resource, strings.Repeat("\\n", n-1), api.ErrLimit, edit{9, 9, list(text("\n\n"))})
	replace(t, api.Sheet, strings.Repeat("\"\"", n-1), strings.Repeat("\"\"", n), edit{9, 9, list(text("\""))})
	refuse(t, api.Sheet, strings.Repeat("\"\"", n-1), api.ErrLimit, edit{9, 9, list(text("\"\""))})
}

// large is a document of as many bytes as said that has a unit with the raw content.
func large(t *testing.T, format, size int, raw string) api.Document {
	t.Helper()
	pad := strings.Repeat("x", size-len(framed(format, "", raw)))
	return parsed(t, format, framed(format, pad, raw))
}

// P10.4: documents of exactly MaxDocument bytes after Replace, and of one more.
func TestReplaceDocumentLimit(t *testing.T) {
	at := func(n int) []api.Range { return []api.Range{{From: n, To: n}} }
	for format := range formats {
		for _, size := range []int{0, 1, 2, 37, api.MaxLength - 2} {
			d := large(t, format, api.MaxDocument-size, "ab")
			fits := strings.Repeat("y", size)
			var target []api.Item
			if size > 0 {
				target = list(text(fits))
			}
			got, e := checkReplace(t, d, middle, at(1), [][]api.Item{target})
			if e != api.OK || len(document.Bytes(got)) != api.MaxDocument {
				t.Errorf("%d: %d bytes more: %d", format, size, e)
			}
			if size < api.MaxLength-2 {
				noReplace(t, d, middle, api.ErrLimit, at(1), list(text(fits+"y")))
			}
			got, e = checkReplace(t, d, middle, []api.Range{{From: 0, To: 2}}, [][]api.Item{list(text(fits + "yy"))})
			if e != api.OK || len(document.Bytes(got)) != api.MaxDocument {
				t.Errorf("%d: %d bytes more: %d", format, size, e)
			}
			if size < api.MaxLength-2 {
				noReplace(t, d, middle, api.ErrLimit, []api.Range{{From: 0, To: 1}, {From: 1, To: 2}}, list(text(fits+"yy")), list(text("z")))
			}
		}
		full := large(t, format, api.MaxDocument, "ab")
		for _, part := range document.Units(full) {
			noReplace(t, full, part, api.ErrLimit, at(0), list(text("y")))
			if got, e := checkReplace(t, full, part, nil, nil); !same(got, full) || e != api.OK {
				t.Errorf("%d: nothing is replaced: %d", format, e)
			}
		}
	}
	// The encodings count.
	for format, s := range map[int]string{api.Markup: "<", api.Resource: "\n", api.Sheet: "\""} {
		encoding, _ := formats[format].encode(list(text(s)))
		d := large(t, format, api.MaxDocument-len(encoding), "")
		if got, e := checkReplace(t, d, middle, at(0), [][]api.Item{list(text(s))}); e != api.OK || len(document.Bytes(got)) != api.MaxDocument {
			t.Errorf("%d: %d", format, e)
		}
		noReplace(t, large(t, format, api.MaxDocument-len(encoding)+1, ""), middle, api.ErrLimit, at(0), list(text(s)))
	}
}

// P10.4: ranges that descend, overlap, or lie beside the unit, and not as many
// targets as ranges.
func TestReplaceArguments(t *testing.T) {
	r := func(from, to int) api.Range { return api.Range{From: from, To: to} }
	a := list(text("a"))
	for format := range formats {
		d := parsed(t, format, framed(format, "", "wx{n}z"))
		for _, ranges := range [][]api.Range{
			{r(-1, 0)}, {r(-1, 1)}, {r(-1, -1)}, {r(-2, -1)}, {r(math.MinInt, 0)}, {r(math.MinInt, math.MaxInt)}, {r(-1<<32, 1)},
			{r(1, 0)}, {r(4, 3)}, {r(3, -1)}, {r(2, math.MinInt)}, {r(math.MaxInt, 0)}, {r(math.MaxInt, math.MinInt)}, {r(5, 4)}, {r(1<<32, 1)},
			{r(0, 5)}, {r(4, 5)}, {r(5, 5)}, {r(6, 6)}, {r(0, math.MaxInt)}, {r(math.MaxInt, math.MaxInt)}, {r(0, 1<<32)}, {r(0, 1<<32+1)},
			{r(0, 2), r(1, 3)}, {r(0, 2), r(1, 1)}, {r(0, 2), r(1, 2)}, {r(0, 1), r(0, 1)}, {r(0, 4), r(0, 4)}, {r(1, 3), r(2, 4)}, {r(0, 3), r(2, 2)},
			{r(1, 2), r(0, 1)}, {r(3, 4), r(0, 1)}, {r(1, 1), r(0, 0)}, {r(1, 1), r(0, 1)}, {r(4, 4), r(3, 3)}, {r(2, 3), r(1, 2)}, {r(1, 2), r(0, 0)},
			{r(0, 1), r(-1, 1)}, {r(0, 1), r(2, 1)}, {r(0, 1), r(1, 5)}, {r(0, 1), r(1, 0)}, {r(-1, 0), r(0, 1)}, {r(2, 1), r(2, 3)}, {r(0, 5), r(5, 5)}, {r(0, 9), r(9, 12)},
			{r(0, 1), r(1, 2), r(1, 3)}, {r(0, 1), r(2, 3), r(1, 2)}, {r(0, 0), r(0, 0), r(0, -1)}, {r(0, 2), r(2, 2), r(1, 4)}, {r(0, 3), r(3, 3), r(3, 5)},
		} {
			targets := slices.Repeat([][]api.Item{a}, len(ranges))
			noReplace(t, d, middle, api.ErrArgument, ranges, targets...)
			noReplace(t, d, middle, api.ErrArgument, ranges, make([][]api.Item, len(ranges))...)
		}
		for _, ranges := range [][]api.Range{nil, {r(0, 1)}, {r(1, 1)}, {r(0, 1), r(1, 2)}, {r(0, 0), r(1, 1), r(4, 4)}} {
			for n := range 6 {
				targets := slices.Repeat([][]api.Item{a}, n)
				if n != len(ranges) {
					noReplace(t, d, middle, api.ErrArgument, ranges, targets...)
					noReplace(t, d, middle, api.ErrArgument, ranges, make([][]api.Item, n)...)
				} else if _, e := checkReplace(t, d, middle, ranges, targets); e != api.OK {
					t.Errorf("Replace(%+v, %v) = %d", d, ranges, e)
				}
			}
		}
	}
}

// P10.4: the errors of Encode, of the first target and of later ones.
func TestReplaceEncode(t *testing.T) {
	good := list(text("a"))
	long := list(text(strings.Repeat("x", api.MaxLength+1)))
	for format := range formats {
		for _, x := range []struct {
			target []api.Item
			want   api.Errno
		}{
			{list(text("")), api.ErrArgument}, {list(text("a"), text("b")), api.ErrArgument}, {list(slot("N")), api.ErrArgument}, {list(slot("")), api.ErrArgument}, {list(api.Item{}), api.ErrArgument}, {list(api.Item{Kind: 9, Text: "a"}), api.ErrArgument}, {list(api.Item{Kind: api.Text, Text: "a", ID: 1}), api.ErrArgument}, {list(open(0, "b"), closing(0, "b")), api.ErrArgument}, {list(open(1000, "b")), api.ErrArgument}, {list(empty(1, "<")), api.ErrArgument},
			{list(open(1, "b"), open(1, "b")), api.ErrTag}, {list(closing(1, "b"), open(1, "b")), api.ErrTag}, {list(open(1, "b"), closing(1, "i")), api.ErrTag}, {list(open(5, "p"), closing(5, "p")), api.ErrTag}, {list(text("a"), empty(1, "li x")), api.ErrTag},
			{long, api.ErrLimit}, {slices.Repeat(list(slot("n")), api.MaxItems+1), api.ErrLimit}, {slices.Repeat(list(slot("N")), api.MaxItems+1), api.ErrLimit},
		} {
			refuse(t, format, "wxyz", x.want, edit{0, 1, x.target})
			refuse(t, format, "wxyz", x.want, edit{4, 4, x.target})
			refuse(t, format, "wxyz", x.want, edit{0, 1, good}, edit{1, 2, x.target})
			refuse(t, format, "wxyz", x.want, edit{0, 1, x.target}, edit{1, 2, good})
			refuse(t, format, "wxyz", x.want, edit{0, 1, nil}, edit{1, 2, nil}, edit{3, 4, x.target})
			// The first target that is refused counts, whatever its error is.
			for _, y := range [][]api.Item{list(text("")), list(closing(1, "b"), empty(1, "b")), long} {
				refuse(t, format, "wxyz", x.want, edit{0, 1, x.target}, edit{1, 2, y})
				refuse(t, format, "wxyz", x.want, edit{0, 1, good}, edit{1, 1, x.target}, edit{1, 2, y}, edit{2, 3, good})
			}
		}
	}
	for _, target := range [][]api.Item{list(empty(1, "br")), list(open(1, "b"), closing(1, "b")), list(open(1, "b")), list(closing(1, "b")), list(text("a"), empty(9, "br"), slot("n"))} {
		for _, format := range []int{api.Resource, api.Sheet} {
			refuse(t, format, "wxyz", api.ErrTag, edit{1, 2, target})
			refuse(t, format, "wxyz", api.ErrTag, edit{1, 2, good}, edit{2, 2, target})
		}
	}
}

// P10.4: documents that are not valid, for any part, ranges and targets.
func TestReplaceInvalid(t *testing.T) {
	bad := list(text(""))
	for format, data := range texts {
		d := parsed(t, format, data)
		other := slices.Clone(d.Parts)
		other[1].Raw = "<{\\\""
		moved := slices.Clone(d.Parts)
		moved[1], moved[3] = moved[3], moved[1]
		for part := -1; part <= len(d.Parts); part++ {
			for _, ranges := range [][]api.Range{nil, {{From: 0, To: 0}}, {{From: -1, To: 0}}, {{From: 1, To: 0}}, {{From: 0, To: 0}, {From: 0, To: 0}}} {
				for _, targets := range [][][]api.Item{nil, {nil}, {bad}, {list(open(1, "b"))}, {list(text(strings.Repeat("x", api.MaxLength)))}} {
					for _, no := range otherFormats {
						noReplace(t, doc(no, d.Parts...), part, api.ErrArgument, ranges, targets...)
						noReplace(t, doc(no), part, api.ErrArgument, ranges, targets...)
					}
					noReplace(t, doc(format), part, api.ErrConflict, ranges, targets...)
					noReplace(t, doc(format, d.Parts[1:]...), part, api.ErrConflict, ranges, targets...)
					noReplace(t, doc(format, other...), part, api.ErrConflict, ranges, targets...)
					noReplace(t, doc(format, moved...), part, api.ErrConflict, ranges, targets...)
				}
			}
		}
	}
}

// P10.4: parts that are no unit, for any ranges and targets.
func TestReplaceMissing(t *testing.T) {
	bad := list(text(""))
	for format, data := range texts {
		d := parsed(t, format, data)
		n := len(d.Parts)
		for _, part := range []int{0, 2, n - 1, n, n + 1, 2*n + 1, 1<<32 + 1, math.MaxInt, -1, -2, -n, math.MinInt} {
			for _, ranges := range [][]api.Range{nil, {{From: 0, To: 0}}, {{From: -1, To: 0}}, {{From: 9, To: 5}}, {{From: 0, To: 0}, {From: 0, To: 0}}} {
				for _, targets := range [][][]api.Item{nil, {nil}, {bad}, {bad, bad}, {list(closing(1, "b"))}} {
					noReplace(t, d, part, api.ErrMissing, ranges, targets...)
				}
			}
		}
	}
	for format, data := range map[int]string{api.Markup: "a", api.Resource: "#", api.Sheet: "text"} {
		noReplace(t, parsed(t, format, data), 0, api.ErrMissing, nil)
		noReplace(t, parsed(t, format, data), 1, api.ErrMissing, nil)
	}
}

// P10.4: the order of the errors, for inputs that have two at once.
func TestReplaceOrder(t *testing.T) {
	invalid, long := list(text("")), list(text(strings.Repeat("x", api.MaxLength)))
	tooLong := list(text(strings.Repeat("x", api.MaxLength+1)))
	block, opening := list(empty(1, "p")), list(open(1, "b"))
	for format := range formats {
		// Ranges and their number come before the targets.
		refuse(t, format, "wxyz", api.ErrArgument, edit{0, 5, block})
		refuse(t, format, "wxyz", api.ErrArgument, edit{0, 5, tooLong})
		refuse(t, format, "wxyz", api.ErrArgument, edit{0, 1, block}, edit{0, 1, block})
		refuse(t, format, "wxyz", api.ErrArgument, edit{0, 1, tooLong}, edit{2, 1, invalid})
		d := parsed(t, format, framed(format, "", "wxyz"))
		noReplace(t, d, middle, api.ErrArgument, nil, block)
		noReplace(t, d, middle, api.ErrArgument, []api.Range{{From: 0, To: 1}}, tooLong, block)
		noReplace(t, d, middle, api.ErrArgument, []api.Range{{From: 0, To: 1}, {From: 1, To: 2}}, tooLong)
		// Every target comes before the new raw content.
		refuse(t, format, "wxyz", api.ErrArgument, edit{0, 1, long}, edit{1, 1, invalid})
		refuse(t, format, "wxyz", api.ErrTag, edit{0, 1, long}, edit{1, 1, block})
		refuse(t, format, "wxyz", api.ErrLimit, edit{0, 1, long}, edit{1, 1, list(text("a"))})
		// What is too long for the unit as well as for the document has one error; and
		// a target comes before the document.
		full := large(t, format, api.MaxDocument, "wxyz")
		noReplace(t, full, middle, api.ErrLimit, []api.Range{{From: 0, To: 0}}, long)
		noReplace(t, full, middle, api.ErrTag, []api.Range{{From: 0, To: 0}}, block)
		noReplace(t, full, middle, api.ErrArgument, []api.Range{{From: 0, To: 0}, {From: 0, To: 0}}, list(text("a")), invalid)
		noReplace(t, full, middle, api.ErrArgument, []api.Range{{From: 0, To: 0}}, list(text("a")), list(text("a")))
		noReplace(t, full, middle+1, api.ErrMissing, []api.Range{{From: 0, To: 0}}, list(text("a")))
	}
	// Every target comes before the new raw content, where that cannot be read.
	refuse(t, api.Markup, "wxyz", api.ErrArgument, edit{0, 1, opening}, edit{1, 1, invalid})
	refuse(t, api.Markup, "wxyz", api.ErrLimit, edit{0, 1, opening}, edit{1, 1, tooLong})
	// Reading comes before the fragment that was asked for.
	taken := edit{0, 0, list(empty(1, "br"))}
	refuse(t, api.Markup, "<b>x</b>", api.ErrConflict, taken)
	refuse(t, api.Markup, "<b>x</b>", api.ErrTag, taken, edit{1, 2, list(open(2, "i"))})
	refuse(t, api.Markup, "<b>x</b>", api.ErrLimit, taken, edit{1, 2, long})
	// Both come before the size of the document.
	full := large(t, api.Markup, api.MaxDocument, "<b>x</b>")
	noReplace(t, full, middle, api.ErrConflict, []api.Range{{From: 0, To: 0}}, taken.target)
	noReplace(t, full, middle, api.ErrTag, []api.Range{{From: 0, To: 0}}, opening)
	noReplace(t, full, middle, api.ErrLimit, []api.Range{{From: 0, To: 0}}, list(empty(2, "br")))
}

// P10.5: each unit is replaced for itself, one after the other.
func TestReplaceAllUnits(t *testing.T) {
	for format, x := range map[int]struct{ data, want string }{
		api.Markup:   {"<p>a</p>\n<!-- <p> --><li>b<i>c</i></li><h></h>x", "<p>1&lt;</p>\n<!-- <p> --><li>3&lt;b<i>c</i></li><h>5&lt;</h>x"},
		api.Resource: {"a=a\n# b\nb=b\\\n c\n\nc=", "a=1<\n# b\nb=3<b\\\n c\n\nc=5<"},
		api.Sheet:    {"x,text\n,\"a\"\n\"\n\",\"bc\"\n1,\"\"\n", "x,text\n,\"1<\"\n\"\n\",\"3<bc\"\n1,\"5<\"\n"},
	} {
		d := parsed(t, format, x.data)
		for _, part := range document.Units(d) {
			n := 0
			if part == 1 {
				n = 1
			}
			number := string(rune('0' + part))
			got, e := checkReplace(t, d, part, []api.Range{{From: 0, To: n}}, [][]api.Item{list(text(number + "<"))})
			if e != api.OK {
				t.Fatalf("Replace(%+v, %d) = %d", d, part, e)
			}
			d = got
		}
		if got := document.Bytes(d); got != x.want {
			t.Errorf("%q, not %q", got, x.want)
		}
		if !same(d, parsed(t, format, x.want)) {
			t.Errorf("%+v is not what is parsed of its bytes", d)
		}
	}
}

// R2: no argument is changed, nor its spare capacity, and the result shares no
// memory with one.
func TestReplaceKeepsArguments(t *testing.T) {
	for format, data := range texts {
		d := parsed(t, format, data)
		spare := append(slices.Clone(d.Parts), unit("spare", "spare"))
		d.Parts = spare[:len(spare)-1]
		target := list(text("a"), slot("n"), text("spare"), slot("spare"))
		ranges := []api.Range{{From: 0, To: 1}, {From: 1, To: 1}, {From: 9, To: 9}}
		targets := [][]api.Item{target[:2], target[:1], target[2:]}
		oldParts, oldTarget, oldRanges := slices.Clone(spare), slices.Clone(target), slices.Clone(ranges)
		got, e := document.Replace(d, 1, ranges[:2], targets[:2])
		again, _ := document.Replace(d, 1, ranges[:2], targets[:2])
		if e != api.OK || !same(got, again) {
			t.Fatalf("%d: %+v, %+v, %d", format, got, again, e)
		}
		for i := range got.Parts {
			got.Parts[i] = unit("x", "x")
		}
		got.Parts = append(got.Parts, unit("x", "x"))
		if !slices.Equal(spare, oldParts) || !slices.Equal(target, oldTarget) || !slices.Equal(ranges, oldRanges) {
			t.Errorf("%d: the arguments are now %+v, %v, %v", format, spare, target, ranges)
		}
		if fresh, _ := document.Replace(d, 1, ranges[:2], targets[:2]); !same(fresh, again) {
			t.Errorf("%d: %+v, not %+v", format, again, fresh)
		}
		target[0], ranges[0], spare[0] = slot("y"), api.Range{}, api.Part{}
		validate(t, again, api.OK)
	}
}
