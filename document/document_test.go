package document_test

import (
	"fmt"
	"math"
	"slices"
	"strconv"
	"strings"
	"testing"

	"bitext/api"
	"bitext/document"
)

func text(s string) api.Item { return api.Item{Kind: api.Text, Text: s} }

func slot(s string) api.Item { return api.Item{Kind: api.Slot, Text: s} }

func open(n int, s string) api.Item { return api.Item{Kind: api.Open, Text: s, ID: n} }

func closing(n int, s string) api.Item { return api.Item{Kind: api.Close, Text: s, ID: n} }

func empty(n int, s string) api.Item { return api.Item{Kind: api.Empty, Text: s, ID: n} }

// list is a fragment.
func list(items ...api.Item) []api.Item { return items }

// skeleton and unit are parts of a document.
func skeleton(raw string) api.Part { return api.Part{Raw: raw} }

func unit(key, raw string) api.Part { return api.Part{Unit: true, Key: key, Raw: raw} }

// doc is a document of any parts.
func doc(format int, parts ...api.Part) api.Document {
	return api.Document{Format: format, Parts: parts}
}

// brief is a value as text, cut off where it gets long.
func brief(v any) string {
	s := fmt.Sprintf("%+v", v)
	return s[:min(len(s), 400)]
}

// same reports whether two documents are equal.
func same(a, b api.Document) bool { return a.Format == b.Format && slices.Equal(a.Parts, b.Parts) }

// parsed is the document of a format whose bytes are data.
func parsed(t *testing.T, format int, data string) api.Document {
	t.Helper()
	d, at, e := document.Parse(format, data)
	if at != 0 || e != api.OK {
		t.Fatalf("Parse(%d, %.120q) = %+v, %d, %d", format, data, d, at, e)
	}
	return d
}

// parse checks that data has the parts, with all that P10.5 says of Parse.
func parse(t *testing.T, format int, data string, want ...api.Part) {
	t.Helper()
	d := parsed(t, format, data)
	if !same(d, doc(format, want...)) {
		t.Errorf("Parse(%d, %.120q) = %+v, not %+v", format, data, d, want)
	}
	if s := document.Bytes(d); s != data {
		t.Errorf("Bytes(Parse(%d, %.120q)) = %.120q", format, data, s)
	}
	validate(t, d, api.OK)
}

// noParse checks that Parse reports an error at an offset, and nothing else.
func noParse(t *testing.T, format int, data string, at int, want api.Errno) {
	t.Helper()
	if d, n, e := document.Parse(format, data); d.Format != 0 || len(d.Parts) != 0 || n != at || e != want {
		t.Errorf("Parse(%d, %.120q) = %+v, %d, %d, not %d, %d", format, data, d, n, e, at, want)
	}
}

func validate(t *testing.T, d api.Document, want api.Errno) {
	t.Helper()
	if e := document.Validate(d); e != want {
		t.Errorf("Validate(%+v) = %d, not %d", d, e, want)
	}
}

// Ordinary documents of the three formats.
const (
	page  = "<title>Hello</title>\n<!-- <p> -->\n<p class=\"x\">Hello <b>world</b>, {name}!</p>\n<ul><li>a &lt; b</li><li></li></ul>\n"
	lines = "# names\n\ntitle=Hello\nname.first= x\\\n  y {name}\\n\nempty="
	table = "id,text,note\n7,\"Hello\",\n8,\"say \"\"{name}\"\" {{\",\"a,\nb\"\n\"9\",\"\",x"
)

// texts are these documents by their formats.
var texts = map[int]string{api.Markup: page, api.Resource: lines, api.Sheet: table}

// P10.1 and P10.5: ordinary documents, without a unit, with one and with several.
func TestParseValues(t *testing.T) {
	parse(t, api.Markup, "<p>a</p>", skeleton("<p>"), unit("1", "a"), skeleton("</p>"))
	parse(t, api.Markup, "no <i>block</i>", skeleton("no <i>block</i>"))
	parse(t, api.Markup, page, skeleton("<title>"), unit("1", "Hello"), skeleton("</title>\n<!-- <p> -->\n<p class=\"x\">"), unit("2", "Hello <b>world</b>, {name}!"), skeleton("</p>\n<ul><li>"), unit("3", "a &lt; b"), skeleton("</li><li>"), unit("4", ""), skeleton("</li></ul>\n"))
	parse(t, api.Resource, "a=x\n", skeleton("a="), unit("a", "x"), skeleton("\n"))
	parse(t, api.Resource, "# nothing\n\n", skeleton("# nothing\n\n"))
	parse(t, api.Resource, lines, skeleton("# names\n\ntitle="), unit("title", "Hello"), skeleton("\nname.first="), unit("name.first", " x\\\n  y {name}\\n"), skeleton("\nempty="), unit("empty", ""), skeleton(""))
	parse(t, api.Sheet, "id,text\n7,\"a\"", skeleton("id,text\n7,\""), unit("1", "a"), skeleton("\""))
	parse(t, api.Sheet, "id,text", skeleton("id,text"))
	parse(t, api.Sheet, table, skeleton("id,text,note\n7,\""), unit("1", "Hello"), skeleton("\",\n8,\""), unit("2", "say \"\"{name}\"\" {{"), skeleton("\",\"a,\nb\"\n\"9\",\""), unit("3", ""), skeleton("\",x"))
}

// P10.1: empty data.
func TestParseEmpty(t *testing.T) {
	parse(t, api.Markup, "", skeleton(""))
	parse(t, api.Resource, "", skeleton(""))
	noParse(t, api.Sheet, "", 0, api.ErrMissing)
}

// P10.1: the same bytes in each format.
func TestParseEachFormat(t *testing.T) {
	parse(t, api.Markup, "text\n\"a\"", skeleton("text\n\"a\""))
	noParse(t, api.Resource, "text\n\"a\"", 0, api.ErrSyntax)
	parse(t, api.Sheet, "text\n\"a\"", skeleton("text\n\""), unit("1", "a"), skeleton("\""))
	parse(t, api.Markup, "a=<p>x</p>", skeleton("a=<p>"), unit("1", "x"), skeleton("</p>"))
	parse(t, api.Resource, "a=<p>x</p>", skeleton("a="), unit("a", "<p>x</p>"), skeleton(""))
	noParse(t, api.Sheet, "a=<p>x</p>", 0, api.ErrMissing)
	parse(t, api.Markup, "#,text\n#,\"<p>\"</p>", skeleton("#,text\n#,\"<p>"), unit("1", "\""), skeleton("</p>"))
	parse(t, api.Resource, "#,text\n#,\"<p>\"</p>", skeleton("#,text\n#,\"<p>\"</p>"))
	noParse(t, api.Sheet, "#,text\n#,\"<p>\"</p>", 9, api.ErrSyntax)
}

// otherFormats are none: they are below, beside and above the three.
var otherFormats = []int{math.MinInt, math.MinInt32, -3, -2, -1, 0, 4, 5, 6, 255, 256, 257, 258, 259, 1 << 32, 1<<32 + 1, 1<<32 + 2, 1<<32 + 3, math.MaxInt}

// P10.1: the format counts before the data.
func TestParseFormats(t *testing.T) {
	for _, format := range otherFormats {
		for _, data := range []string{"", "a", page, lines, table, "<", "a<p>", "a=\na=", "text,text", "\"", strings.Repeat("x", api.MaxDocument+1)} {
			noParse(t, format, data, 0, api.ErrArgument)
		}
	}
}

// P10.1: the errors of the three packages, with their offsets.
func TestParseErrors(t *testing.T) {
	pad := func(n int) string { return strings.Repeat("x", n) }
	long, slots := pad(api.MaxLength+1), strings.Repeat("{n}", api.MaxItems+1)
	for _, x := range []struct {
		format int
		data   string
		at     int
		want   api.Errno
	}{
		{api.Markup, "a<", 1, api.ErrSyntax}, {api.Markup, "<p>a</p></h>", 8, api.ErrSyntax}, {api.Markup, "<p>a</p>\n<p>&x;</p>", 12, api.ErrSyntax}, {api.Markup, "<p>ab", 5, api.ErrSyntax}, {api.Markup, "<p>a<b></i></p>", 7, api.ErrTag}, {api.Markup, "<p>a<b></p>", 7, api.ErrTag}, {api.Markup, "-<p>" + long + "</p>", 4 + api.MaxLength, api.ErrLimit}, {api.Markup, "<p>" + slots + "</p>", 3 + 3*api.MaxItems, api.ErrLimit}, {api.Markup, "<" + pad(api.MaxDocument), 0, api.ErrLimit},
		{api.Resource, "a=x\nb", 4, api.ErrSyntax}, {api.Resource, " a=x", 0, api.ErrSyntax}, {api.Resource, "#\n" + pad(65) + "=", 2, api.ErrSyntax}, {api.Resource, "a=\\q", 2, api.ErrSyntax}, {api.Resource, "a=x\nb=y{", 7, api.ErrSyntax}, {api.Resource, "a=\na=", 3, api.ErrDuplicate}, {api.Resource, "\na=" + long, 3 + api.MaxLength, api.ErrLimit}, {api.Resource, "a=" + slots, 2 + 3*api.MaxItems, api.ErrLimit}, {api.Resource, "#" + pad(api.MaxDocument), 0, api.ErrLimit},
		{api.Sheet, "a,text\n1,\"a\"b\"", 9, api.ErrSyntax}, {api.Sheet, "a,b", 0, api.ErrMissing}, {api.Sheet, "text,text", 0, api.ErrDuplicate}, {api.Sheet, "text\na", 5, api.ErrSyntax}, {api.Sheet, "text\n\"a\",", 9, api.ErrSyntax}, {api.Sheet, "a,text\n1", 7, api.ErrSyntax}, {api.Sheet, "text\n\"ab{\"", 8, api.ErrSyntax}, {api.Sheet, "text\n\"" + long + "\"", 6 + api.MaxLength, api.ErrLimit}, {api.Sheet, "text\n\"" + slots + "\"", 6 + 3*api.MaxItems, api.ErrLimit}, {api.Sheet, "text" + pad(api.MaxDocument), 0, api.ErrLimit},
	} {
		noParse(t, x.format, x.data, x.at, x.want)
	}
}

// P10.1 and P10.5: as many bytes as possible, and one more.
func TestParseLimit(t *testing.T) {
	for format, data := range map[int]string{api.Markup: "<p>a</p>", api.Resource: "a=x\n#", api.Sheet: "text,a\n\"a\","} {
		full := data + strings.Repeat("x", api.MaxDocument-len(data))
		d := parsed(t, format, full)
		if len(d.Parts) != 3 || document.Bytes(d) != full {
			t.Errorf("Parse(%d) of MaxDocument bytes = %d parts", format, len(d.Parts))
		}
		validate(t, d, api.OK)
		noParse(t, format, full+"x", 0, api.ErrLimit)
		d.Parts[2].Raw += "x"
		validate(t, d, api.ErrConflict)
	}
}

// P10.2: the bytes of any list of parts, in any format.
func TestBytes(t *testing.T) {
	for _, format := range append([]int{api.Markup, api.Resource, api.Sheet}, otherFormats...) {
		for _, x := range []struct {
			want  string
			parts []api.Part
		}{
			{"", nil}, {"", []api.Part{}}, {"", []api.Part{skeleton("")}}, {"", []api.Part{skeleton(""), unit("k", ""), {Key: "a"}}}, {"a", []api.Part{skeleton("a")}}, {"a", []api.Part{unit("k", "a")}}, {"abc", []api.Part{skeleton("a"), unit("1", "b"), skeleton("c")}}, {"cba", []api.Part{unit("x", "c"), unit("x", ""), unit("x", "b"), skeleton(""), unit("y", "a")}}, {"\x00\xff<p>\n\"", []api.Part{unit("", "\x00\xff"), skeleton("<p>"), unit("", "\n\"")}}, {strings.Repeat("ab", 70000), slices.Repeat([]api.Part{skeleton("a"), unit("", "b")}, 70000)},
		} {
			if got := document.Bytes(doc(format, x.parts...)); got != x.want {
				t.Errorf("Bytes(%s) = %.80q, not %.80q", brief(x.parts), got, x.want)
			}
		}
	}
}

// P10.2: the format counts before the parts.
func TestValidateFormat(t *testing.T) {
	for _, format := range otherFormats {
		validate(t, doc(format), api.ErrArgument)
		validate(t, doc(format, skeleton("")), api.ErrArgument)
		validate(t, doc(format, skeleton("<")), api.ErrArgument)
		validate(t, doc(format, unit("", ""), unit("", "")), api.ErrArgument)
		for _, data := range texts {
			validate(t, doc(format, skeleton(data)), api.ErrArgument)
		}
		for of, data := range texts {
			validate(t, doc(format, parsed(t, of, data).Parts...), api.ErrArgument)
		}
	}
	// The parts of one format are not those of another.
	for format, data := range texts {
		for other := range texts {
			want := api.OK
			if other != format {
				want = api.ErrConflict
			}
			validate(t, doc(other, parsed(t, format, data).Parts...), want)
		}
	}
}

// P10.2: documents without parts, and with bytes that cannot be parsed.
func TestValidateNothing(t *testing.T) {
	for format := range texts {
		validate(t, doc(format), api.ErrConflict)
		validate(t, doc(format, unit("1", "")), api.ErrConflict)
		validate(t, doc(format, skeleton(""), skeleton("")), api.ErrConflict)
		validate(t, doc(format, skeleton(strings.Repeat("#", api.MaxDocument+1))), api.ErrConflict)
	}
	validate(t, doc(api.Markup, skeleton("")), api.OK)
	validate(t, doc(api.Resource, skeleton("")), api.OK)
	validate(t, doc(api.Sheet, skeleton("")), api.ErrConflict)
	validate(t, doc(api.Sheet, skeleton("text")), api.OK)
	validate(t, doc(api.Markup, skeleton("<")), api.ErrConflict)
	validate(t, doc(api.Resource, skeleton("a")), api.ErrConflict)
	validate(t, doc(api.Sheet, skeleton("text\na")), api.ErrConflict)
}

// conflict checks that a document with these parts is not valid.
func conflict(t *testing.T, format int, parts ...api.Part) {
	t.Helper()
	validate(t, doc(format, slices.Concat(parts)...), api.ErrConflict)
}

// P10.2: parts that are left out, added, moved, divided and joined, so that units
// and skeleton do not alternate as the bytes say.
func TestValidateLists(t *testing.T) {
	for format, data := range texts {
		parts := parsed(t, format, data).Parts
		for i, p := range parts {
			left, right := parts[:i:i], parts[i+1:]
			conflict(t, format, slices.Concat(left, right)...)
			conflict(t, format, parts[:i]...)
			for _, x := range []api.Part{skeleton(""), unit("", ""), unit("9", ""), skeleton("\n"), unit("z", "x"), p} {
				conflict(t, format, slices.Concat(left, []api.Part{x, p}, right)...)
				conflict(t, format, slices.Concat(left, []api.Part{p, x}, right)...)
			}
			for j := range len(right) + 1 {
				if j > 0 {
					conflict(t, format, slices.Concat(left, right[:j], []api.Part{p}, right[j:])...)
				}
			}
			for n := range len(p.Raw) + 1 {
				for _, x := range []api.Part{p, skeleton("")} {
					a, b := p, x
					a.Raw, b.Raw = p.Raw[:n], p.Raw[n:]
					conflict(t, format, slices.Concat(left, []api.Part{a, b}, right)...)
					conflict(t, format, slices.Concat(left, []api.Part{b, a}, right)...)
				}
			}
			if i+1 < len(parts) {
				for _, x := range []api.Part{p, parts[i+1]} {
					x.Raw = p.Raw + parts[i+1].Raw
					conflict(t, format, slices.Concat(left, []api.Part{x}, right[1:])...)
				}
			}
		}
		conflict(t, format, skeleton(data))
	}
}

// P10.2: parts with another Key, with Unit the other way round, and cut elsewhere.
func TestValidateParts(t *testing.T) {
	for format, data := range texts {
		d := parsed(t, format, data)
		for i, p := range d.Parts {
			with := func(x ...api.Part) []api.Part {
				return slices.Concat(d.Parts[:i:i], x, d.Parts[i+len(x):])
			}
			for _, key := range []string{"", "0", "1", "2", "3", "title", "title ", "Title", "name.first", "empty", " ", "\x00"} {
				if key != p.Key {
					conflict(t, format, with(api.Part{Unit: p.Unit, Key: key, Raw: p.Raw})...)
				}
				conflict(t, format, with(api.Part{Unit: !p.Unit, Key: key, Raw: p.Raw})...)
			}
			conflict(t, format, with(api.Part{Unit: !p.Unit, Key: p.Key, Raw: p.Raw})...)
			validate(t, doc(format, with(p)...), api.OK)
			if i+1 == len(d.Parts) {
				break
			}
			next := d.Parts[i+1]
			both := p.Raw + next.Raw
			for n := range len(both) + 1 {
				want := api.ErrConflict
				if n == len(p.Raw) {
					want = api.OK
				}
				a, b := p, next
				a.Raw, b.Raw = both[:n], both[n:]
				validate(t, doc(format, with(a, b)...), want)
			}
		}
	}
}

// P10.2: bytes that are changed in the skeleton and in units. Some of the changed
// documents are valid.
func TestValidateBytes(t *testing.T) {
	for _, x := range []struct {
		format, part int
		raw          string
		want         api.Errno
	}{
		{api.Markup, 1, "other", api.OK}, {api.Markup, 1, "", api.OK}, {api.Markup, 1, "<b>x</b>", api.OK}, {api.Markup, 1, "<b>", api.ErrConflict}, {api.Markup, 1, "<", api.ErrConflict}, {api.Markup, 1, "&", api.ErrConflict}, {api.Markup, 1, "a</title><title>b", api.ErrConflict}, {api.Markup, 1, "</title>", api.ErrConflict}, {api.Markup, 1, "</p>", api.ErrConflict}, {api.Markup, 1, strings.Repeat("x", api.MaxLength), api.OK}, {api.Markup, 1, strings.Repeat("x", api.MaxLength+1), api.ErrConflict},
		{api.Markup, 0, "x<title>", api.OK}, {api.Markup, 0, "<title x>", api.OK}, {api.Markup, 0, "<p>", api.ErrConflict}, {api.Markup, 0, "<title>x", api.ErrConflict}, {api.Markup, 0, "<title", api.ErrConflict}, {api.Markup, 0, "", api.ErrConflict}, {api.Markup, 2, "</title><p>", api.OK}, {api.Markup, 2, "</title><p></p><p>", api.ErrConflict}, {api.Markup, 2, "</title><h>", api.ErrConflict}, {api.Markup, 8, "</li>", api.OK}, {api.Markup, 8, "</li><h>", api.ErrConflict},
		{api.Resource, 1, "other", api.OK}, {api.Resource, 1, "", api.OK}, {api.Resource, 1, "a\\\nb", api.OK}, {api.Resource, 1, "a\nb", api.ErrConflict}, {api.Resource, 1, "a\nb=", api.ErrConflict}, {api.Resource, 1, "a\\", api.ErrConflict}, {api.Resource, 1, "\n", api.ErrConflict}, {api.Resource, 1, "\\q", api.ErrConflict}, {api.Resource, 1, "{", api.ErrConflict}, {api.Resource, 1, strings.Repeat("x", api.MaxLength+1), api.ErrConflict},
		{api.Resource, 0, "title=", api.OK}, {api.Resource, 0, "tItle=", api.ErrConflict}, {api.Resource, 0, "titlf=", api.ErrConflict}, {api.Resource, 0, "title= ", api.ErrConflict}, {api.Resource, 2, " \nname.first=", api.ErrConflict}, {api.Resource, 2, "\n \nname.first=", api.OK}, {api.Resource, 2, "name.first=", api.ErrConflict}, {api.Resource, 2, "\ntitle=", api.ErrConflict}, {api.Resource, 6, "\n#", api.OK}, {api.Resource, 6, "#", api.ErrConflict}, {api.Resource, 6, "\nempty=", api.ErrConflict},
		{api.Sheet, 1, "other", api.OK}, {api.Sheet, 1, "", api.OK}, {api.Sheet, 1, "\"\"", api.OK}, {api.Sheet, 1, "\"", api.ErrConflict}, {api.Sheet, 1, "\",\n1,\"", api.ErrConflict}, {api.Sheet, 1, "{", api.ErrConflict}, {api.Sheet, 1, "\n", api.OK}, {api.Sheet, 1, strings.Repeat("x", api.MaxLength+1), api.ErrConflict},
		{api.Sheet, 0, "id,text,note\n,\"", api.OK}, {api.Sheet, 0, "id,text\n7,\"", api.ErrConflict}, {api.Sheet, 0, "text,id,note\n7,\"", api.ErrConflict}, {api.Sheet, 0, "id,text,note\n7,", api.ErrConflict}, {api.Sheet, 0, "id,text,text\n7,\"", api.ErrConflict}, {api.Sheet, 0, "id,test,note\n7,\"", api.ErrConflict}, {api.Sheet, 2, "\",\"\"\n8,\"", api.OK}, {api.Sheet, 2, "\",\n8,\"x\",\n9,\"", api.ErrConflict}, {api.Sheet, 2, "\"\n8,\"", api.ErrConflict}, {api.Sheet, 6, "\",x\n", api.OK}, {api.Sheet, 6, "\",x\n1,\"y\",", api.ErrConflict}, {api.Sheet, 6, "\"\",x", api.ErrConflict},
	} {
		d := parsed(t, x.format, texts[x.format])
		d.Parts[x.part].Raw = x.raw
		validate(t, d, x.want)
	}
}

// units checks what Units returns for some parts, in any format.
func units(t *testing.T, want []int, parts ...api.Part) {
	t.Helper()
	for _, format := range append([]int{api.Markup, api.Resource, api.Sheet}, otherFormats...) {
		if got := document.Units(doc(format, parts...)); !slices.Equal(got, want) {
			t.Errorf("Units(%d, %+v) = %v, not %v", format, parts, got, want)
		}
	}
}

// P10.2: the units of valid documents and of others.
func TestUnits(t *testing.T) {
	for format, want := range map[int][]int{api.Markup: {1, 3, 5, 7}, api.Resource: {1, 3, 5}, api.Sheet: {1, 3, 5}} {
		units(t, want, parsed(t, format, texts[format]).Parts...)
	}
	s, u := skeleton("s"), unit("k", "u")
	units(t, nil)
	units(t, nil, s)
	units(t, nil, skeleton(""), api.Part{Key: "k"}, s)
	units(t, []int{0}, u)
	units(t, []int{0}, api.Part{Unit: true})
	units(t, []int{1}, s, u, s)
	units(t, []int{0, 1}, u, u)
	units(t, []int{0, 2, 3, 6}, u, s, u, u, s, s, u, s)
	units(t, []int{0, 1, 2, 4}, unit("", ""), unit("<", "<"), unit("\"", "\""), skeleton("<p>"), unit("", "\n"))
	// More than a document can have.
	many := make([]int, 70000)
	for i := range many {
		many[i] = 2*i + 1
	}
	units(t, many, slices.Repeat([]api.Part{s, u}, 70000)...)
}

// content checks that a part has the fragment.
func content(t *testing.T, d api.Document, part int, want []api.Item) {
	t.Helper()
	if f, e := document.Content(d, part); !slices.Equal(f, want) || e != api.OK {
		t.Errorf("Content(%s, %d) = %v, %d, not %v", brief(d), part, f, e, want)
	}
}

// noContent checks that Content returns an error, and nothing else.
func noContent(t *testing.T, d api.Document, part int, want api.Errno) {
	t.Helper()
	if f, e := document.Content(d, part); len(f) != 0 || e != want {
		t.Errorf("Content(%s, %d) = %v, %d, not %d", brief(d), part, f, e, want)
	}
}

// P10.3: the units of ordinary documents.
func TestContentValues(t *testing.T) {
	d := parsed(t, api.Markup, page)
	content(t, d, 1, list(text("Hello")))
	content(t, d, 3, list(text("Hello "), open(1, "b"), text("world"), closing(1, "b"), text(", "), slot("name"), text("!")))
	content(t, d, 5, list(text("a < b")))
	content(t, d, 7, nil)
	d = parsed(t, api.Resource, texts[api.Resource])
	content(t, d, 1, list(text("Hello")))
	content(t, d, 3, list(text(" xy "), slot("name"), text("\n")))
	content(t, d, 5, nil)
	d = parsed(t, api.Sheet, table)
	content(t, d, 1, list(text("Hello")))
	content(t, d, 3, list(text("say \""), slot("name"), text("\" {")))
	content(t, d, 5, nil)
}

// P10.3: the same raw content in each format, also in documents that are not valid.
func TestContentEachFormat(t *testing.T) {
	for _, x := range []struct {
		raw                     string
		markup, resource, sheet []api.Item // "!" as the only text: the content cannot be read
	}{
		{"", nil, nil, nil},
		{"a", list(text("a")), list(text("a")), list(text("a"))},
		{"{n}", list(slot("n")), list(slot("n")), list(slot("n"))},
		{"{{n}", list(text("!")), list(text("!")), list(text("{n}"))},
		{"&lt;", list(text("<")), list(text("&lt;")), list(text("&lt;"))},
		{"<b/>", list(empty(1, "b")), list(text("<b/>")), list(text("<b/>"))},
		{"\\n", list(text("\\n")), list(text("\n")), list(text("\\n"))},
		{"\\\n a", list(text("\\\n a")), list(text("a")), list(text("\\\n a"))},
		{"\"\"", list(text("\"\"")), list(text("\"\"")), list(text("\""))},
		{"\n", list(text("\n")), list(text("!")), list(text("\n"))},
		{"<", list(text("!")), list(text("<")), list(text("<"))},
		{"\"", list(text("\"")), list(text("\"")), list(text("!"))},
	} {
		for format, want := range map[int][]api.Item{api.Markup: x.markup, api.Resource: x.resource, api.Sheet: x.sheet} {
			for i, d := range []api.Document{doc(format, unit("1", x.raw)), doc(format, skeleton("<p>"), unit("", x.raw)), doc(format, unit("x", "<"), unit("y", "\""), unit("z", x.raw), unit("", "\\"))} {
				if slices.Equal(want, list(text("!"))) {
					noContent(t, d, i, api.ErrSyntax)
				} else {
					content(t, d, i, want)
				}
			}
		}
	}
}

// P10.3: parts that are no unit, and indexes of no part, in documents that are
// valid and that are not.
func TestContentMissing(t *testing.T) {
	for format, data := range texts {
		valid := parsed(t, format, data)
		for _, d := range []api.Document{valid, doc(format), doc(format, skeleton("<")), doc(format, api.Part{Key: "1", Raw: "a"}), doc(format, valid.Parts[1:]...), doc(format, unit("1", "<{\\\""), unit("1", "<{\\\"")), doc(format, skeleton("a"), skeleton("<"), api.Part{Key: "k"})} {
			for i, p := range d.Parts {
				if !p.Unit {
					noContent(t, d, i, api.ErrMissing)
				}
			}
			n := len(d.Parts)
			for _, i := range []int{n, n + 1, n + 2, 2 * n, 2*n + 1, 1 << 32, 1<<32 + 1, math.MaxInt, -1, -2, -n, -n - 1, -1 << 32, math.MinInt} {
				if i < 0 || i >= n {
					noContent(t, d, i, api.ErrMissing)
				}
			}
		}
	}
}

// P10.3: the format counts before the part, and the part before its raw content.
func TestContentOrder(t *testing.T) {
	for _, format := range otherFormats {
		for _, d := range []api.Document{doc(format), doc(format, skeleton("a"), unit("1", "a"), skeleton("")), doc(format, unit("1", "<{\\\""))} {
			for i := -2; i < 5; i++ {
				noContent(t, d, i, api.ErrArgument)
			}
		}
	}
	for format := range texts {
		noContent(t, doc(format, api.Part{Key: "1", Raw: "<{\\\""}), 0, api.ErrMissing)
		noContent(t, doc(format, unit("1", "<{\\\"")), 1, api.ErrMissing)
		noContent(t, doc(format, unit("1", "<{\\\"")), 0, api.ErrSyntax)
	}
}

// P10.3: the errors of Decode.
func TestContentErrors(t *testing.T) {
	long, slots := strings.Repeat("x", api.MaxLength), strings.Repeat("{n}", api.MaxItems)
	for format := range texts {
		for _, d := range []api.Document{doc(format, unit("1", long+"x")), doc(format, unit("1", slots+"x")), doc(format, unit("1", slots+"{n}")), doc(format, unit("1", long+"x{"))} {
			noContent(t, d, 0, api.ErrLimit)
		}
		content(t, doc(format, unit("1", long)), 0, list(text(long)))
		content(t, doc(format, unit("1", slots)), 0, slices.Repeat(list(slot("n")), api.MaxItems))
		for _, raw := range []string{"{", "{N}", "a{", "{n}{n", long + "{"} {
			noContent(t, doc(format, unit("1", raw)), 0, api.ErrSyntax)
		}
	}
	for _, raw := range []string{"&", "&x;", "<p>", "</p>", "<b", "<1>"} {
		noContent(t, doc(api.Markup, unit("1", raw)), 0, api.ErrSyntax)
	}
	for _, raw := range []string{"<b>", "</b>", "<b></i>", "<b><i></b></i>", "a<b></b></b>"} {
		noContent(t, doc(api.Markup, unit("1", raw)), 0, api.ErrTag)
		content(t, doc(api.Resource, unit("1", raw)), 0, list(text(raw)))
		content(t, doc(api.Sheet, unit("1", raw)), 0, list(text(raw)))
	}
	for _, raw := range []string{"\\", "\\q", "a\n", "\n"} {
		noContent(t, doc(api.Resource, unit("1", raw)), 0, api.ErrSyntax)
	}
	for _, raw := range []string{"\"", "a\"b", "\"\"\""} {
		noContent(t, doc(api.Sheet, unit("1", raw)), 0, api.ErrSyntax)
	}
}

// R2: what is returned shares no memory with an argument, nor with what is
// returned later.
func TestResultsAreNew(t *testing.T) {
	for format, data := range texts {
		d := parsed(t, format, data)
		again := parsed(t, format, data)
		for i := range d.Parts {
			d.Parts[i] = api.Part{}
		}
		d.Parts = append(d.Parts[:0:len(d.Parts)], unit("x", "x"))
		if fresh := parsed(t, format, data); !same(again, fresh) || document.Bytes(again) != data {
			t.Errorf("%d: %+v", format, again)
		}
		want := document.Units(again)
		got := document.Units(again)
		got[0] = 99
		if !slices.Equal(document.Units(again), want) {
			t.Errorf("%d: %v", format, document.Units(again))
		}
		f, _ := document.Content(again, 1)
		f[0] = slot("x")
		content(t, again, 1, list(text("Hello")))
	}
}

// P10.2: a document with as many units as its bytes allow.
func TestManyUnits(t *testing.T) {
	var data strings.Builder
	data.WriteString("text\n")
	var want []int
	for i := 0; data.Len()+len("\"x\"\n") <= api.MaxDocument; i++ {
		data.WriteString("\"x\"\n")
		want = append(want, 2*i+1)
	}
	d := parsed(t, api.Sheet, data.String())
	validate(t, d, api.OK)
	units(t, want, d.Parts...)
	last := want[len(want)-1]
	if got := d.Parts[last]; got != unit(strconv.Itoa(len(want)), "x") {
		t.Errorf("part %d is %+v", last, got)
	}
	content(t, d, last, list(text("x")))
}
