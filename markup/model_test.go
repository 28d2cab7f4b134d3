package markup_test

import (
	"regexp"
	"slices"
	"strconv"
	"strings"
	"testing"

	"bitext/api"
	"bitext/item"
	"bitext/markup"
)

// The tests of this file set the package against a plain statement of the
// promises: a regular expression for each form of an element, and a raw content
// as a list of elements, of which the open tags are found by going back.

const (
	nameForm    = `([a-z][a-z0-9-]{0,23})`
	contentForm = `([a-z][a-z0-9-]{0,23}(?: [ -;=?-z|~]*[ -.0-;=?-z|~])?)`
)

// tagForms are the forms of the tags by their kinds.
var tagForms = map[int]*regexp.Regexp{
	api.Open:  regexp.MustCompile(`^<` + contentForm + `>`),
	api.Close: regexp.MustCompile(`^</` + nameForm + `>`),
	api.Empty: regexp.MustCompile(`^<` + contentForm + `/>`),
}

var (
	slotForm      = regexp.MustCompile(`^\{` + nameForm + `\}`)
	referenceForm = regexp.MustCompile(`^&(lt|gt|amp|lb|rb);`)
	byteForm      = regexp.MustCompile(`^(?s:[^<&{])`)
	commentForm   = regexp.MustCompile(`^(?s:<!--.*?-->)`)
	bytesForm     = regexp.MustCompile(`^[^<]+`)
)

// tagAt is the tag at the beginning of s and the number of its bytes, or 0.
func tagAt(s string) (api.Item, int) {
	for kind, form := range tagForms {
		if m := form.FindStringSubmatch(s); m != nil && len(m[1]) <= 64 {
			return api.Item{Kind: kind, Text: m[1]}, len(m[0])
		}
	}
	return api.Item{}, 0
}

// name is the name of a tag.
func name(tag api.Item) string { return strings.Split(tag.Text, " ")[0] }

// isBlock reports whether a tag has a block name.
func isBlock(tag api.Item) bool { return slices.Contains(blockNames, name(tag)) }

// element is the element of a raw content at the beginning of s and the number
// of its bytes, or 0.
func element(s string) (api.Item, int) {
	if byteForm.MatchString(s) {
		return text(s[:1]), 1
	}
	if tag, n := tagAt(s); n > 0 && !isBlock(tag) {
		return tag, n
	}
	if m := slotForm.FindStringSubmatch(s); m != nil {
		return slot(m[1]), len(m[0])
	}
	if m := referenceForm.FindStringSubmatch(s); m != nil {
		return text(map[string]string{"lt": "<", "gt": ">", "amp": "&", "lb": "{", "rb": "}"}[m[1]]), len(m[0])
	}
	return api.Item{}, 0
}

// lastOpen is the last opening tag that no closing tag closes.
func lastOpen(elements []api.Item) (api.Item, bool) {
	depth := 0
	for _, x := range slices.Backward(elements) {
		switch {
		case x.Kind == api.Close:
			depth++
		case x.Kind == api.Open && depth > 0:
			depth--
		case x.Kind == api.Open:
			return x, true
		}
	}
	return api.Item{}, false
}

// merge returns the elements with one Text item in place of neighbouring ones.
func merge(elements []api.Item) []api.Item {
	var f []api.Item
	for _, x := range elements {
		if n := len(f); n > 0 && x.Kind == api.Text && f[n-1].Kind == api.Text {
			f[n-1].Text += x.Text
		} else {
			f = append(f, x)
		}
	}
	return f
}

// decode states P7.1 and P7.3.
func decode(raw string) (f []api.Item, cuts []int, at int, e api.Errno) {
	var elements []api.Item
	tags, items := 0, 0
	for at < len(raw) {
		x, n := element(raw[at:])
		if n == 0 {
			return nil, nil, at, api.ErrSyntax
		}
		switch x.Kind {
		case api.Open, api.Empty:
			tags++
			x.ID = tags
		case api.Close:
			opening, ok := lastOpen(elements)
			if !ok || name(opening) != x.Text {
				return nil, nil, at, api.ErrTag
			}
			x.ID = opening.ID
		}
		if last := len(elements) - 1; last < 0 || x.Kind != api.Text || elements[last].Kind != api.Text {
			items++
		}
		elements, cuts = append(elements, x), append(cuts, at)
		if len(elements) > 1024 || items > 512 {
			return nil, nil, at, api.ErrLimit
		}
		at += n
	}
	if _, ok := lastOpen(elements); ok {
		return nil, nil, len(raw), api.ErrTag
	}
	return merge(elements), append(cuts, len(raw)), 0, api.OK
}

// encoded states P7.2 for a valid fragment.
func encoded(f []api.Item) (string, api.Errno) {
	s := ""
	for _, x := range f {
		if x.Kind != api.Text && x.Kind != api.Slot && isBlock(x) {
			return "", api.ErrTag
		}
		switch x.Kind {
		case api.Open:
			s += "<" + x.Text + ">"
		case api.Close:
			s += "</" + x.Text + ">"
		case api.Empty:
			s += "<" + x.Text + "/>"
		case api.Slot:
			s += "{" + x.Text + "}"
		default:
			s += strings.NewReplacer("<", "&lt;", "&", "&amp;", "{", "&lb;").Replace(x.Text)
		}
	}
	return s, api.OK
}

// parts states P7.4.
func parts(data string) (l []api.Part, at int, e api.Errno) {
	if len(data) > 65536 {
		return nil, 0, api.ErrLimit
	}
	before, units := "", 0
	for at < len(data) {
		rest := data[at:]
		if m := bytesForm.FindString(rest) + commentForm.FindString(rest); m != "" {
			before, at = before+m, at+len(m)
			continue
		}
		tag, n := tagAt(rest)
		if n == 0 || isBlock(tag) && tag.Kind != api.Open {
			return nil, at, api.ErrSyntax
		}
		before, at = before+rest[:n], at+n
		if !isBlock(tag) {
			continue
		}
		raw, _, closed := strings.Cut(data[at:], "</"+name(tag)+">")
		if _, _, n, e := decode(raw); e != api.OK {
			return nil, at + n, e
		}
		if !closed {
			return nil, len(data), api.ErrSyntax
		}
		units++
		l = append(l, skeleton(before), unit(strconv.Itoa(units), raw))
		before, at = "</"+name(tag)+">", at+len(raw)+len(name(tag))+3
	}
	return append(l, skeleton(before)), 0, api.OK
}

// checkDecode sets Decode and Cuts against decode, and Encode against what was
// decoded.
func checkDecode(t *testing.T, raw string) api.Errno {
	t.Helper()
	wantF, wantCuts, wantAt, wantE := decode(raw)
	if f, at, e := markup.Decode(raw); !slices.Equal(f, wantF) || at != wantAt || e != wantE {
		t.Fatalf("Decode(%q) = %v, %d, %d, not %v, %d, %d", raw, f, at, e, wantF, wantAt, wantE)
	}
	if cuts, e := markup.Cuts(raw); !slices.Equal(cuts, wantCuts) || e != wantE {
		t.Fatalf("Cuts(%q) = %v, %d, not %v, %d", raw, cuts, e, wantCuts, wantE)
	}
	if wantE != api.OK {
		return wantE
	}
	if e := item.Validate(wantF); e != api.OK {
		t.Fatalf("Decode(%q) = %v: not valid, %d", raw, wantF, e)
	}
	again, e := markup.Encode(wantF)
	if f, at, e2 := markup.Decode(again); e != api.OK || !slices.Equal(f, wantF) || at != 0 || e2 != api.OK {
		t.Fatalf("Decode(Encode(Decode(%q))) = %v, %d, %d, %d", raw, f, at, e, e2)
	}
	return api.OK
}

// checkSplit sets Split against parts; the parts concatenate to data.
func checkSplit(t *testing.T, data string) api.Errno {
	t.Helper()
	want, wantAt, wantE := parts(data)
	got, at, e := markup.Split(data)
	if !slices.Equal(got, want) || at != wantAt || e != wantE {
		t.Fatalf("Split(%q) = %+v, %d, %d, not %+v, %d, %d", data, got, at, e, want, wantAt, wantE)
	}
	if e != api.OK {
		return e
	}
	if bytesOf(got) != data || len(got)%2 == 0 {
		t.Fatalf("Split(%q) = %+v", data, got)
	}
	for i, p := range got {
		if p.Unit != (i%2 == 1) || p.Unit && checkDecode(t, p.Raw) != api.OK {
			t.Fatalf("Split(%q) = %+v: part %d", data, got, i)
		}
	}
	return api.OK
}

// strs calls use with all strings of at most n of the pieces.
func strs(n int, pieces []string, use func(s string)) {
	var extend func(s string, n int)
	extend = func(s string, n int) {
		use(s)
		for _, piece := range pieces {
			if n > 0 {
				extend(s+piece, n-1)
			}
		}
	}
	extend("", n)
}

// P7.1, P7.2 and P7.3: all short raw contents of bytes and pieces of elements.
func TestDecodeAll(t *testing.T) {
	for most, pieces := range map[int]string{
		3: "a & l t ; < > { } / b p x n B 1 - = \n \x00 \x7f \x80 \xff <b </b <!-- --> &lt; &am {n",
		4: "&lt; &gt; &amp; &lb; &rb; &lt & ; a {n} <b> </b>",
		5: "<b> </b> <i> </i> <b/> {n} a & <p>",
		7: "< / b >",
		8: "<b> </b>",
	} {
		count := map[api.Errno]int{}
		strs(most, append(strings.Split(pieces, " "), " "), func(s string) { count[checkDecode(t, s)]++ })
		if count[api.OK] < 10 || count[api.ErrSyntax] < 10 && !strings.HasPrefix(pieces, "<b> </b>") {
			t.Errorf("%q: results %v", pieces, count)
		}
	}
}

// P7.4 and P7.5: all short documents of bytes and pieces of tags and comments.
func TestSplitAll(t *testing.T) {
	for most, pieces := range map[int]string{
		3: "a & < > { / p b ! - < <p </p <!-- --> <li> </li> <p> </p> <b> </b> <p/> <b/> {n} \n \xff",
		5: "<p> </p> <li> </li> <b> </b> <!-- --> a <",
		6: "< p > / <p> </p>",
		7: "<!-- --> - > <p> </p>",
	} {
		count := map[api.Errno]int{}
		strs(most, strings.Split(pieces, " "), func(s string) { count[checkSplit(t, s)]++ })
		if count[api.OK] < 50 || count[api.ErrSyntax] < 50 {
			t.Errorf("%q: results %v", pieces, count)
		}
	}
}

// seeds are documents and raw contents from which others differ in one place.
var seeds = []string{
	"a&lt;<b>c</b>{n}", "<b x=\"1\"><i>&gt;&amp;</i><br/></b>&lb;&rb;}>", "<p>a</p>", "x<h c>y<b>z</b></h><!-- <p> -- --><li></li>", "<title>{n-1}</title>&<td>&rb;</td>",
	"<" + longContent + "></a>", "<" + longName + "/>{" + longName + "}", "<li " + strings.Repeat("x", api.MaxTag-3) + ">a</li>",
}

// P7.1 to P7.5: all strings that differ in one byte from a seed, or that are cut
// off, or in which a byte is left out or added.
func TestEveryEdit(t *testing.T) {
	decoded, divided := map[api.Errno]int{}, map[api.Errno]int{}
	check := func(s string) {
		decoded[checkDecode(t, s)]++
		divided[checkSplit(t, s)]++
	}
	for _, s := range seeds {
		for i := range len(s) + 1 {
			left, right := s[:i], s[i:]
			check(left)
			for b := range 256 {
				check(left + string([]byte{byte(b)}) + right)
				if i < len(s) {
					check(left + string([]byte{byte(b)}) + right[1:])
				}
			}
			if i < len(s) {
				check(left + right[1:])
			}
		}
	}
	for _, e := range []api.Errno{api.OK, api.ErrSyntax, api.ErrTag} {
		if decoded[e] < 20 || divided[e] < 20 {
			t.Errorf("results %v and %v", decoded, divided)
		}
	}
}

// P7.1 and P7.4: all elements at the limits of a fragment, and behind the last
// that fits, also in a block.
func TestEveryElementAtTheLimits(t *testing.T) {
	long, slots := strings.Repeat("a", api.MaxLength-2), strings.Repeat("{n}", api.MaxItems-2)
	starts := []string{long, strings.Repeat("&lt;", api.MaxLength-2), slots, strings.Repeat("{n}a", api.MaxItems/2-1), strings.Repeat("a{n}", api.MaxItems/2-1), "<b>" + long[1:], "<b>" + slots[3:], "<b/>" + long[1:], strings.Repeat("<b>", api.MaxItems-2)}
	elements := []string{"", "a", "&lt;", "{n}", "<b>", "</b>", "<i>", "</i>", "<b/>", "<p>", "</p>", "&", "{N}", "<"}
	decoded, divided := map[api.Errno]int{}, map[api.Errno]int{}
	for _, start := range starts {
		for _, x := range elements {
			for _, y := range elements {
				decoded[checkDecode(t, start+x+y)]++
				decoded[checkDecode(t, start+x+y+"</b>")]++
				divided[checkSplit(t, "<p>"+start+x+y+"</p>")]++
				divided[checkSplit(t, "<li>"+start+x+y+"{n}")]++
			}
		}
	}
	for _, e := range []api.Errno{api.OK, api.ErrSyntax, api.ErrTag, api.ErrLimit} {
		if decoded[e] < 20 || divided[e] < 20 {
			t.Errorf("results %v and %v", decoded, divided)
		}
	}
}

// fragments returns the lists of at most n of the items.
func fragments(n int, items []api.Item) [][]api.Item {
	all := [][]api.Item{nil}
	for from := 0; n > 0; n-- {
		to := len(all)
		for _, f := range all[from:to] {
			for _, x := range items {
				all = append(all, append(slices.Clone(f), x))
			}
		}
		from = to
	}
	return all
}

// isClosed reports whether the shape of f is ok and empty.
func isClosed(f []api.Item) bool {
	closes, opens, ok := item.Shape(f)
	return ok && len(closes)+len(opens) == 0
}

// piece is the encoding of what f has from one position up to another.
func piece(t *testing.T, f []api.Item, from, to int) string {
	t.Helper()
	part, ok := item.Slice(f, from, to)
	s, e := markup.Encode(part)
	if !ok || e != api.OK {
		t.Fatalf("Encode of %d to %d of %v: %d", from, to, f, e)
	}
	return s
}

// P7.2 and P7.5: all fragments of up to four items, valid or not; what is decoded
// of an encoding, and of the encodings of neighbouring slices.
func TestEncodeAll(t *testing.T) {
	items := list(
		text("a<"), text("&lt;b>{n}"), text(""), text("\n}>"), open(1, "b"), open(1, "b /x"), open(12, "b"), shut(1, "b"), shut(12, "b"), shut(2, "i"), open(2, "i"),
		empty(1, "b"), empty(3, "b x"), open(0, "b"), open(2, "B"), open(4, "p"), shut(4, "p"), empty(5, "td x"), slot("p"), slot("n-1"), slot("N"), api.Item{Kind: 9, Text: "b", ID: 1},
	)
	count := map[api.Errno]int{}
	closed := 0
	for _, f := range fragments(4, items) {
		want, wantE := "", item.Validate(f)
		if wantE == api.OK {
			want, wantE = encoded(f)
		}
		s, e := markup.Encode(f)
		if s != want || e != wantE {
			t.Fatalf("Encode(%v) = %q, %d, not %q, %d", f, s, e, want, wantE)
		}
		count[e]++
		if e != api.OK {
			continue
		}
		checkDecode(t, s)
		if isClosed(f) {
			closed++
			checkSlices(t, f)
		}
	}
	if count[api.OK] < 5000 || count[api.ErrTag] < 5000 || count[api.ErrArgument] < 5000 || closed < 1000 {
		t.Errorf("results %v, %d of them closed", count, closed)
	}
}

// checkSlices states P7.5 for a fragment cut into up to three slices.
func checkSlices(t *testing.T, f []api.Item) {
	t.Helper()
	want, n := item.Renumber(f), item.Length(f)
	for i := range n + 1 {
		for j := i; j <= n; j++ {
			s := piece(t, f, 0, i) + piece(t, f, i, j) + piece(t, f, j, n)
			if got, at, e := markup.Decode(s); !slices.Equal(got, want) || at != 0 || e != api.OK {
				t.Fatalf("%v, cut at %d and %d, is %q: %v, %d, %d", f, i, j, s, got, at, e)
			}
		}
	}
}

// P7.5: a fragment with Text items next to each other is not valid, but is once
// it is normalized; the encodings of its pieces decode to the same.
func TestAdjacentTexts(t *testing.T) {
	items := list(text("a"), text("<"), text("&lb;"), open(7, "b"), shut(7, "b"), slot("n"))
	adjacent := 0
	for _, f := range fragments(5, items) {
		g := item.Normalize(f)
		if item.Validate(g) != api.OK || !isClosed(g) {
			continue
		}
		s, e := markup.Encode(f)
		if len(g) < len(f) {
			adjacent++
			if s != "" || e != api.ErrArgument {
				t.Fatalf("Encode(%v) = %q, %d", f, s, e)
			}
		}
		s = ""
		for _, x := range f {
			part, e := markup.Encode(list(x))
			if e != api.OK {
				t.Fatalf("Encode(%v) = %d", x, e)
			}
			s += part
		}
		if whole, e := markup.Encode(g); whole != s || e != api.OK {
			t.Fatalf("Encode(%v) = %q, %d, not %q", g, whole, e, s)
		}
		if got, at, e := markup.Decode(s); !slices.Equal(got, item.Renumber(f)) || at != 0 || e != api.OK {
			t.Fatalf("Decode(%q) = %v, %d, %d, not %v renumbered", s, got, at, e, f)
		}
	}
	if adjacent < 500 {
		t.Errorf("%d fragments with adjacent texts", adjacent)
	}
}

// mixtures calls use with raw in which each piece between two of its cuts, chosen
// in every way, is left as it is or encoded again.
func mixtures(t *testing.T, raw string, f []api.Item, cuts []int, use func(s string)) {
	t.Helper()
	n := len(cuts) - 1
	var extend func(s string, from int)
	extend = func(s string, from int) {
		if from == n {
			use(s)
		}
		for to := from + 1; to <= n; to++ {
			extend(s+raw[cuts[from]:cuts[to]], to)
			extend(s+piece(t, f, from, to), to)
		}
	}
	extend("", 0)
}

// P7.5: all short raw contents, cut at all positions, in all mixtures of raw
// pieces and encodings.
func TestMixtures(t *testing.T) {
	raws, mixed := 0, 0
	check := func(raw string) {
		f, at, e := markup.Decode(raw)
		cuts, e2 := markup.Cuts(raw)
		if e != e2 {
			t.Fatalf("Decode(%q) = %d, %d; Cuts: %d", raw, at, e, e2)
		}
		if e != api.OK {
			return
		}
		raws++
		mixtures(t, raw, f, cuts, func(s string) {
			mixed++
			if got, at, e := markup.Decode(s); !slices.Equal(got, f) || at != 0 || e != api.OK {
				t.Fatalf("%q mixed with its encoding is %q: %v, %d, %d, not %v", raw, s, got, at, e, f)
			}
		})
	}
	strs(4, []string{"a", "}", "&lt;", "&gt;", "&amp;", "&rb;", ";", "{n}", "<b x>", "</b>", "<i/>", "\xff"}, check)
	strs(5, []string{"&lt;", "&gt;", "{n}", "<b x>", "</b>"}, check)
	strs(6, []string{"<b>", "</b>", "<i>", "</i>"}, check)
	if raws < 5000 || mixed < 100000 {
		t.Errorf("%d mixtures of %d raw contents", mixed, raws)
	}
}

// P7.5: long raw contents, cut at every position, in both mixtures of two pieces.
func TestMixturesAtTheLimits(t *testing.T) {
	for _, raw := range []string{
		strings.Repeat("&gt;", api.MaxLength), strings.Repeat("&amp;a", api.MaxLength/2), strings.Repeat("{n}}", api.MaxItems/2), strings.Repeat("<b x>&rb;</b>", api.MaxItems/3), strings.Repeat("<b>", api.MaxItems/2) + strings.Repeat("</b>", api.MaxItems/2),
	} {
		f, _, e := markup.Decode(raw)
		cuts, _ := markup.Cuts(raw)
		if e != api.OK {
			t.Fatalf("Decode(%.40q) = %d", raw, e)
		}
		n := len(cuts) - 1
		for i, cut := range cuts {
			for _, s := range []string{raw[:cut] + piece(t, f, i, n), piece(t, f, 0, i) + raw[cut:]} {
				if got, at, e := markup.Decode(s); !slices.Equal(got, f) || at != 0 || e != api.OK {
					t.Fatalf("%.40q, cut at %d, is %.40q: %d, %d", raw, i, s, at, e)
				}
			}
		}
	}
}
