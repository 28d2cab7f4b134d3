package sheet_test

import (
	"math"
	"slices"
	"strings"
	"testing"

	"bitext/api"
	"bitext/item"
	"bitext/sheet"
)

func text(s string) api.Item { return api.Item{Kind: api.Text, Text: s} }

func slot(s string) api.Item { return api.Item{Kind: api.Slot, Text: s} }

func tag(kind, n int, s string) api.Item { return api.Item{Kind: kind, Text: s, ID: n} }

// list is a fragment.
func list(items ...api.Item) []api.Item { return items }

// times is a fragment of n equal items.
func times(n int, x api.Item) []api.Item { return slices.Repeat(list(x), n) }

var longName = strings.Repeat("n", api.MaxName)

// pass checks that a raw content has the fragment.
func pass(t *testing.T, raw string, f []api.Item) {
	t.Helper()
	if got, at, e := sheet.Decode(raw); !slices.Equal(got, f) || at != 0 || e != api.OK {
		t.Errorf("Decode(%.80q) = %v, %d, %d, not %v", raw, got, at, e, f)
	}
	if got, e := sheet.Cuts(raw); len(got) != item.Length(f)+1 || len(got) > 0 && (got[0] != 0 || got[len(got)-1] != len(raw)) || e != api.OK {
		t.Errorf("Cuts(%.80q) = %v, %d", raw, got, e)
	}
}

// fail checks that Decode reports an error at an offset, Cuts the same error,
// and both nothing else.
func fail(t *testing.T, raw string, at int, want api.Errno) {
	t.Helper()
	if f, got, e := sheet.Decode(raw); len(f) != 0 || got != at || e != want {
		t.Errorf("Decode(%.80q) = %v, %d, %d, not %d, %d", raw, f, got, e, at, want)
	}
	if got, e := sheet.Cuts(raw); len(got) != 0 || e != want {
		t.Errorf("Cuts(%.80q) = %v, %d, not %d", raw, got, e, want)
	}
}

// failTail checks what fail does, and that it holds whatever follows.
func failTail(t *testing.T, raw string, at int, want api.Errno) {
	t.Helper()
	for _, tail := range []string{"", " ", "a", ",\n", "\xff", "}}", `a""`, `a"`, "a{{", "a{n}", "a{", strings.Repeat("a", api.MaxLength+1)} {
		fail(t, raw+tail, at, want)
	}
}

// P9.1: the examples, and raw contents with every kind of element.
func TestDecodeValues(t *testing.T) {
	for raw, f := range map[string][]api.Item{
		"":                   nil,
		`a""b{{c{n}`:         list(text(`a"b{c`), slot("n")),
		"{{{n}":              list(text("{"), slot("n")),
		"Hello, world!":      list(text("Hello, world!")),
		"Hello, {name}!":     list(text("Hello, "), slot("name"), text("!")),
		"  a\n\tb\r\n ":      list(text("  a\n\tb\r\n ")),
		"{n}":                list(slot("n")),
		"{n}{n}":             list(slot("n"), slot("n")),
		"{n-1}a{m}b":         list(slot("n-1"), text("a"), slot("m"), text("b")),
		"{" + longName + "}": list(slot(longName)),
		`<b>a</b>&lt;\n\\`:   list(text(`<b>a</b>&lt;\n\\`)),
		`He said ""{x}"".`:   list(text(`He said "`), slot("x"), text(`".`)),
		"a\x00\n\r,\xff":     list(text("a\x00\n\r,\xff")),
		"text":               list(text("text")),
		"{text}":             list(slot("text")),
		"a,b,,{n},":          list(text("a,b,,"), slot("n"), text(",")),
	} {
		pass(t, raw, f)
	}
}

// P9.1: doubled bytes next to each other, to bytes and to placeholders; reading
// goes from left to right, and two { come before a placeholder.
func TestDecodeDoubled(t *testing.T) {
	for raw, f := range map[string][]api.Item{
		`""`:             list(text(`"`)),
		`""""`:           list(text(`""`)),
		`""""""`:         list(text(`"""`)),
		"{{":             list(text("{")),
		"{{{{":           list(text("{{")),
		"{{{{{{":         list(text("{{{")),
		`""{{`:           list(text(`"{`)),
		`{{""`:           list(text(`{"`)),
		`{{""{{""`:       list(text(`{"{"`)),
		`a""b`:           list(text(`a"b`)),
		"a{{b":           list(text("a{b")),
		`""a{{`:          list(text(`"a{`)),
		"{{n}":           list(text("{n}")),
		"{{n":            list(text("{n")),
		"{{}":            list(text("{}")),
		"{{}}":           list(text("{}}")),
		"{{N}":           list(text("{N}")),
		"{{{{n}":         list(text("{{n}")),
		"{{{{{n}":        list(text("{{"), slot("n")),
		"{n}{{n}":        list(slot("n"), text("{n}")),
		"{n}{{{n}":       list(slot("n"), text("{"), slot("n")),
		"{n}{{":          list(slot("n"), text("{")),
		`{n}""{m}`:       list(slot("n"), text(`"`), slot("m")),
		`""{n}""`:        list(text(`"`), slot("n"), text(`"`)),
		`{n}{{""{n}""{{`: list(slot("n"), text(`{"`), slot("n"), text(`"{`)),
		"\x00{{\n":       list(text("\x00{\n")),
		"\xff\"\",":      list(text("\xff\",")),
	} {
		pass(t, raw, f)
	}
}

// P9.1: every byte, alone and among others.
func TestDecodeEveryByte(t *testing.T) {
	for b := range 256 {
		s := string([]byte{byte(b)})
		switch s {
		case `"`, "{":
			fail(t, s, 0, api.ErrSyntax)
			fail(t, "a}"+s, 2, api.ErrSyntax)
			fail(t, "{n}"+s, 3, api.ErrSyntax)
			fail(t, s+s+s, 2, api.ErrSyntax)
			fail(t, `""{{`+s, 4, api.ErrSyntax)
			pass(t, s+s, list(text(s)))
			pass(t, "{n}"+s+s+"a", list(slot("n"), text(s+"a")))
		default:
			pass(t, s, list(text(s)))
			pass(t, s+s+`""`+s, list(text(s+s+`"`+s)))
			pass(t, "a"+s+"{n}"+s, list(text("a"+s), slot("n"), text(s)))
			failTail(t, `"`+s, 0, api.ErrSyntax)
			failTail(t, `a""`+s+`"`+s, 4, api.ErrSyntax)
		}
	}
	pass(t, "}", list(text("}")))
	pass(t, "}{n}}}{m}}", list(text("}"), slot("n"), text("}}"), slot("m"), text("}")))
	pass(t, "\x00\n\r,\xff", list(text("\x00\n\r,\xff")))
}

// P9.1: a single ", and a { that begins no placeholder and is not doubled.
func TestDecodeSyntax(t *testing.T) {
	for _, s := range []string{
		"{}", "{N}", "{ n}", "{n }", "{1}", "{-n}", "{n_}", "{n.m}", "{n\n}", "{é}", "{n,m}", "{n{m}", "{n{{m}", `{"n}`, `{""n}`, `{n"}`, `{n""}`, "{\x00}", "{=}", "{n\xff}", "{" + longName + "n}", `"a`, `"}`, `"{{`, `"{n}`, "\"\n", `",`,
	} {
		failTail(t, s, 0, api.ErrSyntax)
		failTail(t, "ab "+s, 3, api.ErrSyntax)
		failTail(t, `a""`+s, 3, api.ErrSyntax)
		failTail(t, "{n}\n"+s, 4, api.ErrSyntax)
		failTail(t, "{{}"+s, 3, api.ErrSyntax)
	}
	// The two { come first, so that what looks like a placeholder behind them is none.
	failTail(t, "{{{N}", 2, api.ErrSyntax)
	failTail(t, "{{{{{}", 4, api.ErrSyntax)
	failTail(t, `"""a`, 2, api.ErrSyntax)
	failTail(t, `"""""{n}`, 4, api.ErrSyntax)
	failTail(t, `a"{{`, 1, api.ErrSyntax)
	pass(t, "{{n}{n}}", list(text("{n}"), slot("n"), text("}")))
	for _, s := range []string{"{n}", "{n-1}", "{" + longName + "}"} {
		for i := 1; i < len(s); i++ {
			fail(t, s[:i], 0, api.ErrSyntax)
			fail(t, "a"+s[:i], 1, api.ErrSyntax)
			fail(t, `""`+s[:i]+"\n", 2, api.ErrSyntax)
			fail(t, s+s[:i]+" }", len(s), api.ErrSyntax)
		}
	}
}

// P9.1: as many items as possible, and one more.
func TestDecodeItems(t *testing.T) {
	n := api.MaxItems
	slots := strings.Repeat("{n}", n)
	pass(t, slots, times(n, slot("n")))
	pass(t, slots[3:]+`abc""{{d`, append(times(n-1, slot("n")), text(`abc"{d`)))
	pass(t, `ab""{{c`+slots[3:], append(list(text(`ab"{c`)), times(n-1, slot("n"))...))
	pass(t, slots[6:]+`ab""{{c{n}`, append(times(n-2, slot("n")), text(`ab"{c`), slot("n")))
	pass(t, strings.Repeat("{n}a", n/2), slices.Repeat(list(slot("n"), text("a")), n/2))
	pass(t, strings.Repeat("{{{n}", n/2), slices.Repeat(list(text("{"), slot("n")), n/2))
	pass(t, strings.Repeat(`a""{{b`, n/4), list(text(strings.Repeat(`a"{b`, n/4))))
	for _, full := range []string{slots, "abc" + slots[3:], strings.Repeat("a{n}", n/2), strings.Repeat("ab{n}", n/2), strings.Repeat(`""{n}`, n/2), strings.Repeat("{{{n}", n/2)} {
		for _, s := range []string{"{n}", "a", "}", `""`, "{{", "\x00"} {
			failTail(t, full+s, len(full), api.ErrLimit)
		}
	}
	for _, full := range []string{slots[3:] + "abc", strings.Repeat("{n}a", n/2), strings.Repeat(`{n}""`, n/2), strings.Repeat("{n}{{", n/2)} {
		f := decoded(t, full)
		failTail(t, full+"{n}", len(full), api.ErrLimit)
		pass(t, full+`b""`, append(f[:n-1:n-1], text(f[n-1].Text+`b"`)))
	}
}

// P9.1: as many positions as possible, and one more, reached by bytes, by doubled
// bytes and by placeholders.
func TestDecodePositions(t *testing.T) {
	n := api.MaxLength
	pass(t, strings.Repeat("a", n), list(text(strings.Repeat("a", n))))
	pass(t, strings.Repeat(`""`, n), list(text(strings.Repeat(`"`, n))))
	pass(t, strings.Repeat("{{", n), list(text(strings.Repeat("{", n))))
	pass(t, strings.Repeat("a", n-1)+"{{", list(text(strings.Repeat("a", n-1)+"{")))
	pass(t, strings.Repeat("a", n-1)+"{"+longName+"}", list(text(strings.Repeat("a", n-1)), slot(longName)))
	for _, full := range []string{strings.Repeat("a", n), strings.Repeat(`""`, n), "{n}" + strings.Repeat("{{", n-1), strings.Repeat("a", n-1) + "{n}", strings.Repeat(`"",`, n/2)} {
		decoded(t, full)
		for _, more := range []string{"a", "\x00", `""`, "{{", "{n}", "}"} {
			failTail(t, full+more, len(full), api.ErrLimit)
		}
	}
	fail(t, strings.Repeat("{{", n+1), 2*n, api.ErrLimit)
	fail(t, strings.Repeat("a", 1<<20), n, api.ErrLimit)
	fail(t, "{"+strings.Repeat("a", 1<<20), 0, api.ErrSyntax)
}

// decoded is the fragment of a raw content that can be read.
func decoded(t *testing.T, raw string) []api.Item {
	t.Helper()
	f, at, e := sheet.Decode(raw)
	if e != api.OK || at != 0 {
		t.Fatalf("Decode(%.80q) = %d, %d", raw, at, e)
	}
	return f
}

// P9.1: elements for which two errors hold, and elements with different errors
// one behind the other.
func TestDecodeErrorsInOrder(t *testing.T) {
	for _, full := range []string{strings.Repeat("{n}", api.MaxItems), strings.Repeat("a", api.MaxLength), strings.Repeat(`""`, api.MaxLength), strings.Repeat("{{", api.MaxLength)} {
		n := len(full)
		for _, s := range []string{`"a`, "{N}", "{}", "{ ", "{,n}"} {
			failTail(t, full+s, n, api.ErrSyntax)
		}
		fail(t, full+`"`, n, api.ErrSyntax)
		fail(t, full+"{", n, api.ErrSyntax)
		failTail(t, full+"{n}{}", n, api.ErrLimit)
		failTail(t, full+`{n}"b`, n, api.ErrLimit)
		failTail(t, full+`{{{}`, n, api.ErrLimit)
		failTail(t, full+`"""b`, n, api.ErrLimit)
	}
	// The first one of several elements counts, whatever its error.
	fail(t, `a"b{N}`, 1, api.ErrSyntax)
	fail(t, `{N}"`, 0, api.ErrSyntax)
	fail(t, `"`+strings.Repeat("a", api.MaxLength+1), 0, api.ErrSyntax)
	fail(t, strings.Repeat("a", api.MaxLength+1)+`"`, api.MaxLength, api.ErrLimit)
	fail(t, strings.Repeat("a", api.MaxLength-1)+"{"+strings.Repeat("a", api.MaxLength), api.MaxLength-1, api.ErrSyntax)
}

// P9.3: the offsets of all elements.
func TestCutsValues(t *testing.T) {
	for raw, want := range map[string][]int{
		"":                   {0},
		"x":                  {0, 1},
		"abc":                {0, 1, 2, 3},
		`""`:                 {0, 2},
		"{{":                 {0, 2},
		`""{{""`:             {0, 2, 4, 6},
		`a""{{b{n}`:          {0, 1, 3, 5, 6, 9},
		"{n}":                {0, 3},
		"{{{n}":              {0, 2, 5},
		"{{n}":               {0, 2, 3, 4},
		"{{{{":               {0, 2, 4},
		"a{name}b":           {0, 1, 7, 8},
		"{n}{m-1}":           {0, 3, 8},
		`{n}""{n}`:           {0, 3, 5, 8},
		"\xff\x00}\n,":       {0, 1, 2, 3, 4, 5},
		"}{n}}":              {0, 1, 4, 5},
		"{" + longName + "}": {0, 2 + api.MaxName},
	} {
		if got, e := sheet.Cuts(raw); !slices.Equal(got, want) || e != api.OK {
			t.Errorf("Cuts(%q) = %v, %d, not %v", raw, got, e, want)
		}
	}
	for _, s := range []string{"a", `""`, "{{"} {
		got, e := sheet.Cuts(strings.Repeat(s, api.MaxLength))
		if len(got) != api.MaxLength+1 || got[1] != len(s) || got[api.MaxLength] != len(s)*api.MaxLength || e != api.OK {
			t.Errorf("Cuts of many %q = %v, %d", s, got, e)
		}
	}
}

// encode checks the result of Encode.
func encode(t *testing.T, f []api.Item, want string, e api.Errno) {
	t.Helper()
	if got, err := sheet.Encode(f); got != want || err != e {
		t.Errorf("Encode(%.120v) = %q, %d, not %q, %d", f, got, err, want, e)
	}
}

// P9.2: fragments of texts and placeholders, and every byte.
func TestEncodeValues(t *testing.T) {
	for want, f := range map[string][]api.Item{
		"":                         nil,
		`a""b{{c{n}`:               list(text(`a"b{c`), slot("n")),
		`""{{},` + "\n":            list(text("\"{},\n")),
		`{{{n}""`:                  list(text("{"), slot("n"), text(`"`)),
		"{{n}":                     list(text("{n}")),
		"{{{{n}}":                  list(text("{{n}}")),
		`""""`:                     list(text(`""`)),
		" \t\r\n\\ ":               list(text(" \t\r\n\\ ")),
		"{n}{n}":                   list(slot("n"), slot("n")),
		"{n-1}a{" + longName + "}": list(slot("n-1"), text("a"), slot(longName)),
		"\x00\xff\x80é":            list(text("\x00\xff\x80é")),
	} {
		encode(t, f, want, api.OK)
	}
	encode(t, []api.Item{}, "", api.OK)
	encode(t, list(text(strings.Repeat("{", api.MaxLength))), strings.Repeat("{{", api.MaxLength), api.OK)
	encode(t, list(text(strings.Repeat(`"`, api.MaxLength))), strings.Repeat(`""`, api.MaxLength), api.OK)
	encode(t, times(api.MaxItems, slot("n")), strings.Repeat("{n}", api.MaxItems), api.OK)
	for b := range 256 {
		s := string([]byte{byte(b)})
		written := s
		if s == `"` || s == "{" {
			written = s + s
		}
		encode(t, list(text(s)), written, api.OK)
		encode(t, list(text("a"+s+s)), "a"+written+written, api.OK)
		encode(t, list(slot("n"), text(s)), "{n}"+written, api.OK)
	}
}

// P9.2: the errors of item.Validate, also of fragments with tags.
func TestEncodeInvalid(t *testing.T) {
	b := tag(api.Open, 2, "b")
	for _, kind := range []int{math.MinInt, -1, 0, api.Slot + 1, api.Word, api.Sign, math.MaxInt} {
		encode(t, list(tag(kind, 1, "b")), "", api.ErrArgument)
		encode(t, list(b, tag(kind, 1, "b")), "", api.ErrArgument)
	}
	for _, f := range [][]api.Item{
		list(text("")), list(text("a"), text("b")), list(tag(api.Text, 1, "a")), list(tag(api.Text, -1, `"`)),
		list(slot("")), list(slot("N")), list(slot("n}")), list(slot(longName + "n")), list(tag(api.Slot, 1, "n")),
		list(tag(api.Open, 0, "b")), list(tag(api.Open, 1, "B")), list(tag(api.Empty, 1000, "b")), list(tag(api.Empty, 1, "b ")), list(tag(api.Close, 1, "b x")), list(tag(api.Close, -1, "b")),
	} {
		encode(t, f, "", api.ErrArgument)
		encode(t, append(list(b), f...), "", api.ErrArgument)
		encode(t, append(f, tag(api.Empty, 3, "br")), "", api.ErrArgument)
		encode(t, append(f, times(api.MaxItems, slot("n"))...), "", api.ErrLimit)
	}
	for _, f := range [][]api.Item{
		list(b, b), list(b, tag(api.Close, 2, "i")), list(tag(api.Close, 2, "b"), b), list(tag(api.Empty, 2, "b"), b),
	} {
		encode(t, f, "", api.ErrTag)
		encode(t, append(f, text("")), "", api.ErrTag)
	}
	encode(t, times(api.MaxItems+1, slot("n")), "", api.ErrLimit)
	encode(t, list(text(strings.Repeat("a", api.MaxLength+1))), "", api.ErrLimit)
	encode(t, append(times(api.MaxItems, slot("n")), b), "", api.ErrLimit)
	encode(t, list(text(strings.Repeat("{", api.MaxLength)), b), "", api.ErrLimit)
}

// P9.2: each kind of tag in valid fragments, at each place.
func TestEncodeTags(t *testing.T) {
	for _, f := range [][]api.Item{
		list(tag(api.Open, 1, "b")), list(tag(api.Open, 999, "b x")), list(tag(api.Close, 1, "b")), list(tag(api.Empty, 1, "br")), list(tag(api.Open, 1, "b"), tag(api.Close, 1, "b")),
	} {
		encode(t, f, "", api.ErrTag)
		encode(t, append(list(text("a{"), slot("n")), f...), "", api.ErrTag)
		encode(t, append(f, text("a"), slot("n")), "", api.ErrTag)
		// Behind a tag, an error of Validate still comes first.
		encode(t, append(f, text("")), "", api.ErrArgument)
	}
}

// R2: results share no memory with those of another call, and Encode changes
// nothing of its argument, nor behind it.
func TestResultsAreNew(t *testing.T) {
	const raw, data = `a""{n}`, "text\n\"a\"\n"
	wantF := list(text(`a"`), slot("n"))
	for range 2 {
		pass(t, raw, wantF)
		split(t, data, skeleton("text\n\""), unit("1", "a"), skeleton("\"\n"))
		f, _, _ := sheet.Decode(raw)
		clear(f[:cap(f)])
		parts, _, _ := sheet.Split(data)
		clear(parts[:cap(parts)])
		cuts, _ := sheet.Cuts(raw)
		if !slices.Equal(cuts, []int{0, 1, 3, 6}) {
			t.Fatalf("Cuts = %v", cuts)
		}
		clear(cuts[:cap(cuts)])
	}
	spare := append(make([]api.Item, 0, 2*len(wantF)), wantF...)
	encode(t, spare, raw, api.OK)
	if !slices.Equal(spare, wantF) || !slices.Equal(spare[len(spare):cap(spare)], make([]api.Item, len(wantF))) {
		t.Error("Encode has changed its argument")
	}
}
