package document_test

import (
	"slices"
	"strings"
	"testing"

	"bitext/api"
	"bitext/document"
	"bitext/item"
	"bitext/markup"
	"bitext/resource"
	"bitext/sheet"
)

// The tests of this file set the package against a plain statement of the
// promises, in which a fragment is a list of single positions, and the ranges are
// replaced from the last one to the first.

// calls are those of the package of a format.
type calls struct {
	split  func(data string) ([]api.Part, int, api.Errno)
	decode func(raw string) ([]api.Item, int, api.Errno)
	encode func(f []api.Item) (string, api.Errno)
	cuts   func(raw string) ([]int, api.Errno)
}

var formats = map[int]calls{
	api.Markup:   {markup.Split, markup.Decode, markup.Encode, markup.Cuts},
	api.Resource: {resource.Split, resource.Decode, resource.Encode, resource.Cuts},
	api.Sheet:    {sheet.Split, sheet.Decode, sheet.Encode, sheet.Cuts},
}

// bytesOf is the concatenation of the raw bytes of all parts.
func bytesOf(parts []api.Part) string {
	s := ""
	for _, p := range parts {
		s += p.Raw
	}
	return s
}

// validity states P10.2.
func validity(d api.Document) api.Errno {
	calls, ok := formats[d.Format]
	if !ok {
		return api.ErrArgument
	}
	if parts, _, e := calls.split(bytesOf(d.Parts)); e != api.OK || !slices.Equal(parts, d.Parts) {
		return api.ErrConflict
	}
	return api.OK
}

// positions is f as a list of items of one position each.
func positions(f []api.Item) []api.Item {
	var l []api.Item
	for _, x := range f {
		if x.Kind != api.Text {
			l = append(l, x)
			continue
		}
		for i := range len(x.Text) {
			l = append(l, text(x.Text[i:i+1]))
		}
	}
	return l
}

// proper reports whether the ranges ascend in a fragment of n positions.
func proper(ranges []api.Range, n int) bool {
	for i, r := range ranges {
		if r.From < 0 || r.To < r.From || r.To > n || i > 0 && r.From < ranges[i-1].To {
			return false
		}
	}
	return true
}

// replaced states P10.4.
func replaced(d api.Document, part int, ranges []api.Range, targets [][]api.Item) (api.Document, api.Errno) {
	none := api.Document{}
	if e := validity(d); e != api.OK {
		return none, e
	}
	if part < 0 || part >= len(d.Parts) || !d.Parts[part].Unit {
		return none, api.ErrMissing
	}
	calls, raw := formats[d.Format], d.Parts[part].Raw
	f, _, _ := calls.decode(raw)
	cuts, _ := calls.cuts(raw)
	l := positions(f)
	if len(ranges) != len(targets) || !proper(ranges, len(l)) {
		return none, api.ErrArgument
	}
	encodings := make([]string, len(targets))
	for i, target := range targets {
		s, e := calls.encode(target)
		if e != api.OK {
			return none, e
		}
		encodings[i] = s
	}
	for i, r := range slices.Backward(ranges) {
		raw = raw[:cuts[r.From]] + encodings[i] + raw[cuts[r.To]:]
		l = slices.Concat(l[:r.From], targets[i], l[r.To:])
	}
	got, _, e := calls.decode(raw)
	if e != api.OK {
		return none, e
	}
	if !slices.Equal(got, item.Renumber(item.Normalize(l))) {
		return none, api.ErrConflict
	}
	parts := slices.Clone(d.Parts)
	parts[part].Raw = raw
	if len(bytesOf(parts)) > 65536 {
		return none, api.ErrLimit
	}
	return api.Document{Format: d.Format, Parts: parts}, api.OK
}

// checkReplace sets Replace against replaced, and its result against P10.5.
func checkReplace(t *testing.T, d api.Document, part int, ranges []api.Range, targets [][]api.Item) (api.Document, api.Errno) {
	t.Helper()
	want, wantE := replaced(d, part, ranges, targets)
	got, e := document.Replace(d, part, ranges, targets)
	if !same(got, want) || e != wantE {
		t.Fatalf("Replace(%s, %d, %v, %s) = %s, %d, not %s, %d", brief(d), part, ranges, brief(targets), brief(got), e, brief(want), wantE)
	}
	if e == api.OK {
		checkReplaced(t, d, part, got)
		checkFound(t, got, part, ranges, targets)
	}
	return got, e
}

// checkReplaced states P10.5 for a document in which a unit was replaced.
func checkReplaced(t *testing.T, d api.Document, part int, got api.Document) {
	t.Helper()
	if e := document.Validate(got); e != api.OK {
		t.Fatalf("%s is not valid: %d", brief(got), e)
	}
	if got.Format != d.Format || len(got.Parts) != len(d.Parts) {
		t.Fatalf("%s: not the format or the parts of %s", brief(got), brief(d))
	}
	for i, p := range d.Parts {
		if i == part {
			p.Raw = got.Parts[i].Raw
		}
		if got.Parts[i] != p {
			t.Fatalf("part %d of %s is not that of %s", i, brief(got), brief(d))
		}
	}
	if !slices.Equal(document.Units(got), document.Units(d)) {
		t.Fatalf("%s: not the units of %s", brief(got), brief(d))
	}
}

// checkFound states P10.5 for the targets: each is found in its place.
func checkFound(t *testing.T, got api.Document, part int, ranges []api.Range, targets [][]api.Item) {
	t.Helper()
	f, e := document.Content(got, part)
	if e != api.OK {
		t.Fatalf("Content(%s, %d) = %d", brief(got), part, e)
	}
	shift := 0
	for i, r := range ranges {
		n := item.Length(targets[i])
		place, ok := item.Slice(f, r.From+shift, r.From+shift+n)
		if !ok || !item.Same(item.Renumber(place), item.Renumber(targets[i])) {
			t.Fatalf("target %d, %s, at %d of %s is %s", i, brief(targets[i]), r.From+shift, brief(f), brief(place))
		}
		shift += n - (r.To - r.From)
	}
}

// strs calls use with all strings of at most n of the pieces.
func strs(n int, pieces []string, use func(s string)) {
	var extend func(s string, n int)
	extend = func(s string, n int) {
		use(s)
		for _, piece := range pieces {
			if n > 0 {
				extend(s+piece, n-1)
			}
		}
	}
	extend("", n)
}

// P10.1 and P10.5: all short data, in each format.
func TestParseAll(t *testing.T) {
	pieces := map[int][]string{
		api.Markup:   {"<p>", "</p>", "<b>", "</b>", "&lt;", "a", "{n}", "<", "<!--", "-->"},
		api.Resource: {"a", "=", "\n", "\\", "{n}", "#", " ", "{", "b"},
		api.Sheet:    {"text", "\"", ",", "\n", "{", "a", "\"\"", "{n}"},
	}
	for format, calls := range formats {
		count := map[api.Errno]int{}
		check := func(data string) {
			parts, wantAt, wantE := calls.split(data)
			d, at, e := document.Parse(format, data)
			if !slices.Equal(d.Parts, parts) || at != wantAt || e != wantE || e == api.OK && d.Format != format || e != api.OK && d.Format != 0 {
				t.Fatalf("Parse(%d, %q) = %+v, %d, %d", format, data, d, at, e)
			}
			if e == api.OK && (document.Bytes(d) != data || document.Validate(d) != api.OK) {
				t.Fatalf("Parse(%d, %q) = %+v: %q, %d", format, data, d, document.Bytes(d), document.Validate(d))
			}
			count[e]++
		}
		strs(5, pieces[format], check)
		if format == api.Sheet {
			strs(5, pieces[format], func(s string) { check("text\n" + s) })
		}
		if count[api.OK] < 500 || count[api.ErrSyntax] < 500 {
			t.Errorf("%d: results %v", format, count)
		}
	}
}

// P10.2: all lists of up to five of some parts, in each format.
func TestValidateAll(t *testing.T) {
	for format, pieces := range map[int][]api.Part{
		api.Markup:   {skeleton(""), skeleton("<p>"), skeleton("</p>"), skeleton("</p><p>"), skeleton("<p>a</p>"), unit("1", "a"), unit("1", ""), unit("2", "&lt;"), unit("1", "</p>"), {Key: "1", Raw: "<p>"}},
		api.Resource: {skeleton(""), skeleton("a="), skeleton("\nb="), skeleton("\n"), skeleton("a=x"), unit("a", "x"), unit("a", ""), unit("b", "\\\n"), unit("a", "x\nb="), {Key: "a", Raw: "a="}},
		api.Sheet:    {skeleton(""), skeleton("text\n\""), skeleton("\"\n\""), skeleton("\""), skeleton("text\n\"a\""), unit("1", "a"), unit("1", ""), unit("2", "\"\""), unit("1", "a\"\n\""), {Key: "1", Raw: "text\n\""}},
	} {
		count := map[api.Errno]int{}
		var extend func(parts []api.Part)
		extend = func(parts []api.Part) {
			d := doc(format, parts...)
			e := document.Validate(d)
			if e != validity(d) {
				t.Fatalf("Validate(%+v) = %d, not %d", d, e, validity(d))
			}
			count[e]++
			if len(parts) == 5 {
				return
			}
			for _, p := range pieces {
				extend(append(parts[:len(parts):len(parts)], p))
			}
		}
		extend(nil)
		if count[api.OK] < 4 || count[api.ErrConflict] < 10000 || len(count) != 2 {
			t.Errorf("%d: results %v", format, count)
		}
	}
}

// framed is a document of a format that has a unit with this raw content between
// two others; pad is a piece of its skeleton.
func framed(format int, pad, raw string) string {
	switch format {
	case api.Markup:
		return pad + "<h>x</h>\n<p>" + raw + "</p><li>y</li>"
	case api.Resource:
		return "#" + pad + "\nx=x\np=" + raw + "\ny=y\n"
	}
	return "id" + pad + ",text\n1,\"x\"\n2,\"" + raw + "\"\n3,\"y\""
}

// middle is the index of the unit between two others.
const middle = 3

// lists are all lists of n ranges with numbers from -1 to length + 1.
func lists(n, length int) [][]api.Range {
	all := [][]api.Range{nil}
	for ; n > 0; n-- {
		var more [][]api.Range
		for _, l := range all {
			for from := -1; from <= length+1; from++ {
				for to := -1; to <= length+1; to++ {
					more = append(more, append(slices.Clone(l), api.Range{From: from, To: to}))
				}
			}
		}
		all = more
	}
	return all
}

// choices are all lists of n of the targets.
func choices(n int, targets [][]api.Item) [][][]api.Item {
	all := [][][]api.Item{nil}
	for ; n > 0; n-- {
		var more [][][]api.Item
		for _, l := range all {
			for _, target := range targets {
				more = append(more, append(slices.Clone(l), target))
			}
		}
		all = more
	}
	return all
}

// raws are raw contents with few positions, and replacements are targets for them.
var (
	raws = map[int][]string{
		api.Markup:   {"", "ab", "a&gt;b", "<b>a</b>", "<b><i x>&lt;</i></b>", "{n}<br/>a", "<b></b><b></b>"},
		api.Resource: {"", "ab", "a\\\n \tb\\\n ", "\\\n\\\n a\\n\\\n\t\\\n", "\\s{n}\\\\", " x ", "\\\n"},
		api.Sheet:    {"", "ab", "a\"\"b", "{{{n}", "\n,{n}{m}", "\"\"\"\"{{"},
	}
	replacements = map[int][][]api.Item{
		api.Markup:   {nil, list(text("<b>&{")), list(slot("m")), list(open(1, "b")), list(closing(1, "b")), list(open(7, "b"), text("z"), closing(7, "b")), list(empty(2, "br")), list(closing(1, "b"), open(2, "b")), list(open(5, "p")), list(text(""))},
		api.Resource: {nil, list(text(" z")), list(text("\\\n{\t\r")), list(slot("m")), list(text("n}")), list(slot("m"), text(" "), slot("n")), list(empty(1, "br")), list(slot("N"))},
		api.Sheet:    {nil, list(text("z,\n")), list(text("\"")), list(text("{")), list(slot("m")), list(text("n}")), list(slot("m"), text("{"), slot("n")), list(open(1, "b"), closing(1, "b")), list(text("a"), text("b"))},
	}
)

// P10.4 and P10.5: all lists of up to two ranges and up to three targets in short
// units.
func TestReplaceAll(t *testing.T) {
	for format := range formats {
		count := map[api.Errno]int{}
		targets := replacements[format]
		for _, raw := range raws[format] {
			d := parsed(t, format, framed(format, "", raw))
			f, _ := document.Content(d, middle)
			length := item.Length(f)
			for n := range 3 {
				for _, ranges := range lists(n, length) {
					few := targets[len(targets)-2:]
					if proper(ranges, length) {
						few = targets
					}
					for _, chosen := range choices(n, few) {
						_, e := checkReplace(t, d, middle, ranges, chosen)
						count[e]++
					}
					checkReplace(t, d, middle, ranges, choices(n+1, targets[:1])[0])
					if n > 0 {
						checkReplace(t, d, middle, ranges, choices(n-1, targets[1:2])[0])
					}
				}
			}
		}
		if count[api.OK] < 2000 || count[api.ErrArgument] < 2000 || count[api.ErrTag] < 500 || format == api.Markup && count[api.ErrConflict] < 500 {
			t.Errorf("%d: results %v", format, count)
		}
	}
}

// P10.4 and P10.5: all lists of three ranges that ascend in short units.
func TestReplaceThree(t *testing.T) {
	for format := range formats {
		count := map[api.Errno]int{}
		targets := replacements[format][:6]
		for _, raw := range raws[format] {
			d := parsed(t, format, framed(format, "", raw))
			f, _ := document.Content(d, middle)
			length := min(item.Length(f), 3)
			for _, ranges := range lists(3, length) {
				if !proper(ranges, length) {
					continue
				}
				for _, chosen := range choices(3, targets) {
					_, e := checkReplace(t, d, middle, ranges, chosen)
					count[e]++
				}
			}
		}
		if count[api.OK] < 2000 {
			t.Errorf("%d: results %v", format, count)
		}
	}
}

// checkKept states P10.5 for a unit of which some ranges are replaced by what they
// contain: Content shows no change.
func checkKept(t *testing.T, d api.Document, part int, f []api.Item, ranges []api.Range) {
	t.Helper()
	targets := make([][]api.Item, len(ranges))
	for i, r := range ranges {
		targets[i], _ = item.Slice(f, r.From, r.To)
	}
	got, e := checkReplace(t, d, part, ranges, targets)
	if e != api.OK {
		t.Fatalf("Replace(%s, %d, %v, %s) = %d", brief(d), part, ranges, brief(targets), e)
	}
	content(t, got, part, f)
}

// P10.5: ranges of short units that are replaced by what they contain.
func TestReplaceKeepsAll(t *testing.T) {
	for format := range formats {
		for _, raw := range raws[format] {
			d := parsed(t, format, framed(format, "", raw))
			f, e := document.Content(d, middle)
			if e != api.OK {
				t.Fatalf("Content(%+v) = %d", d, e)
			}
			for n := range 3 {
				for _, ranges := range lists(n, item.Length(f)) {
					if proper(ranges, item.Length(f)) {
						checkKept(t, d, middle, f, ranges)
					}
				}
			}
		}
	}
}

// P10.5: every unit of ordinary documents, every range of which is replaced by what
// it contains, and by other texts.
func TestReplaceKeepsOrdinary(t *testing.T) {
	for format, data := range texts {
		d := parsed(t, format, data)
		for _, part := range document.Units(d) {
			f, _ := document.Content(d, part)
			n := item.Length(f)
			checkKept(t, d, part, f, nil)
			for from := range n + 1 {
				for to := from; to <= n; to++ {
					checkKept(t, d, part, f, []api.Range{{From: from, To: to}})
					checkKept(t, d, part, f, []api.Range{{From: 0, To: from}, {From: from, To: to}, {From: to, To: to}, {From: to, To: n}})
					checkReplace(t, d, part, []api.Range{{From: from, To: to}}, [][]api.Item{list(text("\"<&{}\\\n"), slot("n"))})
				}
			}
		}
	}
}

// P10.4: every byte between every two of some bytes, in each format.
func TestReplaceEveryByte(t *testing.T) {
	neighbours := []string{"a", "<", "&", "{", "}", "\\", "\n", "\t", " ", "\r", "\"", ",", "n", ";", "/", ">", "\x00", "\xff"}
	for format, calls := range formats {
		for _, x := range neighbours {
			for _, z := range neighbours {
				raw, _ := calls.encode(list(text(x + z)))
				d := parsed(t, format, framed(format, "", raw))
				for b := range 256 {
					y := string([]byte{byte(b)})
					got, e := checkReplace(t, d, middle, []api.Range{{From: 1, To: 1}}, [][]api.Item{list(text(y))})
					if e != api.OK {
						t.Fatalf("%q between %q and %q: %d", y, x, z, e)
					}
					content(t, got, middle, list(text(x+y+z)))
				}
			}
		}
	}
}

// P10.4: targets of elements behind and before every element, each written as the
// unit of a document may have it.
func TestReplaceBesideElements(t *testing.T) {
	elements := map[int][]string{
		api.Markup:   {"", "a", "&lt;", "&gt;", "&amp;", "&lb;", "&rb;", "{n}", "<br/>", "<b>a</b>", "}", ";", "lt;", "--", "/p>", "p>", "n}", "\"\""},
		api.Resource: {"", "a", "\\n", "\\t", "\\s", "\\r", "\\\\", "\\{", "{n}", "\\\n", "\\\n \t", "n", "n}", " ", "\t", "#", "=", "\\\n\\\n"},
		api.Sheet:    {"", "a", "\"\"", "{{", "{n}", "n}", "}", ",", "\n", "\\n", "{{{n}", "\"\"\"\"", "text", "\\"},
	}
	targets := [][]api.Item{nil, list(text("&")), list(text("<")), list(text("{")), list(text("}")), list(text("n}")), list(text("lt;")), list(text("\\")), list(text("\n")), list(text(" ")), list(text("\"")), list(text("\",")), list(slot("n")), list(text("{"), slot("n"), text("}")), list(text("</p>"))}
	for format := range formats {
		replaced := 0
		for _, x := range elements[format] {
			for _, y := range elements[format] {
				d := parsed(t, format, framed(format, "", x+y))
				f, _ := document.Content(d, middle)
				for at := range item.Length(f) + 1 {
					for _, target := range targets {
						if _, e := checkReplace(t, d, middle, []api.Range{{From: at, To: at}}, [][]api.Item{target}); e != api.OK {
							t.Fatalf("%v at %d of %q: %d", target, at, x+y, e)
						}
						replaced++
					}
				}
			}
		}
		if replaced < 5000 {
			t.Errorf("%d: %d targets", format, replaced)
		}
	}
}

// P10.4: units of the greatest size, replaced at every position.
func TestReplaceLongUnits(t *testing.T) {
	for format, raws := range map[int][]string{
		api.Markup:   {strings.Repeat("&lt;", api.MaxLength), strings.Repeat("a{n}", api.MaxItems/2), strings.Repeat("<b>", api.MaxItems/2) + strings.Repeat("</b>", api.MaxItems/2)},
		api.Resource: {strings.Repeat("\\\n \\n", api.MaxLength), strings.Repeat("a{n}\\\n", api.MaxItems/2)},
		api.Sheet:    {strings.Repeat("\"\"", api.MaxLength), strings.Repeat("{{{n}", api.MaxItems/2)},
	} {
		for _, raw := range raws {
			d := parsed(t, format, framed(format, "", raw))
			f, _ := document.Content(d, middle)
			n := item.Length(f)
			for at := 0; at <= n; at += 7 {
				checkKept(t, d, middle, f, []api.Range{{From: at, To: n}})
				checkKept(t, d, middle, f, []api.Range{{From: 0, To: at}})
				checkReplace(t, d, middle, []api.Range{{From: at, To: min(at+2, n)}}, [][]api.Item{list(text("x"))})
				checkReplace(t, d, middle, []api.Range{{From: at, To: at}}, [][]api.Item{list(text("x"), slot("m"))})
			}
		}
	}
}
