package resource_test

import (
	"math"
	"slices"
	"strings"
	"testing"

	"bitext/api"
	"bitext/item"
	"bitext/resource"
)

func text(s string) api.Item { return api.Item{Kind: api.Text, Text: s} }

func slot(s string) api.Item { return api.Item{Kind: api.Slot, Text: s} }

func tag(kind, n int, s string) api.Item { return api.Item{Kind: kind, Text: s, ID: n} }

// list is a fragment.
func list(items ...api.Item) []api.Item { return items }

// times is a fragment of n equal items.
func times(n int, x api.Item) []api.Item { return slices.Repeat(list(x), n) }

var (
	longName = strings.Repeat("n", api.MaxName)
	// escapes are the escapes with what they stand for.
	escapes = map[string]string{`\n`: "\n", `\t`: "\t", `\s`: " ", `\r`: "\r", `\\`: `\`, `\{`: "{"}
	// joints are continuations, alone and next to each other.
	joints = []string{"\\\n", "\\\n ", "\\\n\t", "\\\n  \t \t\t", "\\\n\\\n", "\\\n \\\n\t\\\n"}
)

// pass checks that a raw value has the fragment.
func pass(t *testing.T, raw string, f []api.Item) {
	t.Helper()
	if got, at, e := resource.Decode(raw); !slices.Equal(got, f) || at != 0 || e != api.OK {
		t.Errorf("Decode(%.80q) = %v, %d, %d, not %v", raw, got, at, e, f)
	}
	if got, e := resource.Cuts(raw); len(got) != item.Length(f)+1 || got[0] != 0 || e != api.OK {
		t.Errorf("Cuts(%.80q) = %v, %d", raw, got, e)
	}
}

// fail checks that Decode reports an error at an offset, Cuts the same error,
// and both nothing else.
func fail(t *testing.T, raw string, at int, want api.Errno) {
	t.Helper()
	if f, got, e := resource.Decode(raw); len(f) != 0 || got != at || e != want {
		t.Errorf("Decode(%.80q) = %v, %d, %d, not %d, %d", raw, f, got, e, at, want)
	}
	if got, e := resource.Cuts(raw); len(got) != 0 || e != want {
		t.Errorf("Cuts(%.80q) = %v, %d, not %d", raw, got, e, want)
	}
}

// failTail checks what fail does, and that it holds whatever follows.
func failTail(t *testing.T, raw string, at int, want api.Errno) {
	t.Helper()
	for _, tail := range []string{"", " ", "a", "\xff", `\n`, `\q`, "\n", "\\\n", "{n}", "{", strings.Repeat("a", api.MaxLength+1)} {
		fail(t, raw+tail, at, want)
	}
}

// P8.1: the example, and raw values with every kind of element.
func TestDecodeValues(t *testing.T) {
	for raw, f := range map[string][]api.Item{
		"":                           nil,
		`x\ny{n}`:                    list(text("x\ny"), slot("n")),
		"Hello, world!":              list(text("Hello, world!")),
		"Hello, {name}!":             list(text("Hello, "), slot("name"), text("!")),
		"  a  b\t ":                  list(text("  a  b\t ")),
		"{n}":                        list(slot("n")),
		"{n}{n}":                     list(slot("n"), slot("n")),
		"{n-1}a{m}b":                 list(slot("n-1"), text("a"), slot("m"), text("b")),
		"{" + longName + "}":         list(slot(longName)),
		"a=b#c<b>&lt;</b>\"\"":       list(text("a=b#c<b>&lt;</b>\"\"")),
		"C:\\\\dir\\\\new":           list(text(`C:\dir\new`)),
		`\\n`:                        list(text(`\n`)),
		`\\\n`:                       list(text("\\\n")),
		`\{n}`:                       list(text("{n}")),
		`\{\{n}{n}}`:                 list(text("{{n}"), slot("n"), text("}")),
		`{n}\t{m}\s`:                 list(slot("n"), text("\t"), slot("m"), text(" ")),
		"one\\\n    two{n}\\\n\t\\s": list(text("onetwo"), slot("n"), text(" ")),
	} {
		pass(t, raw, f)
	}
}

// P8.1: the six escapes, each alone, next to each other and next to bytes; what
// they stand for is not read again.
func TestDecodeEscapes(t *testing.T) {
	for raw, s := range escapes {
		pass(t, raw, list(text(s)))
		pass(t, "a"+raw, list(text("a"+s)))
		pass(t, raw+"n", list(text(s+"n")))
		pass(t, "\xff"+raw+"\x00", list(text("\xff"+s+"\x00")))
		pass(t, "{n}"+raw+"{n}", list(slot("n"), text(s), slot("n")))
		pass(t, raw+"n}", list(text(s+"n}")))
		for raw2, s2 := range escapes {
			pass(t, raw+raw2, list(text(s+s2)))
			pass(t, raw+"x"+raw2, list(text(s+"x"+s2)))
			for raw3, s3 := range escapes {
				pass(t, raw+raw2+raw3, list(text(s+s2+s3)))
			}
		}
	}
	for b := range 256 {
		s := `\` + string([]byte{byte(b)})
		if _, ok := escapes[s]; ok || b == '\n' {
			continue
		}
		failTail(t, s, 0, api.ErrSyntax)
		failTail(t, `a\\{n}`+s, 6, api.ErrSyntax)
		failTail(t, "\\\n \t"+s, 4, api.ErrSyntax)
	}
	for _, before := range []string{"", "a", "{n}", `\n`, `\\`, `\\\\`, "\\\n"} {
		fail(t, before+`\`, len(before), api.ErrSyntax)
	}
}

// P8.1: every byte, alone and among others.
func TestDecodeEveryByte(t *testing.T) {
	for b := range 256 {
		s := string([]byte{byte(b)})
		switch s {
		case "\n", "\\", "{":
			fail(t, s, 0, api.ErrSyntax)
			fail(t, "a}"+s, 2, api.ErrSyntax)
			fail(t, "{n}"+s, 3, api.ErrSyntax)
		default:
			pass(t, s, list(text(s)))
			pass(t, s+s+`\n`+s, list(text(s+s+"\n"+s)))
			pass(t, "a"+s+"{n}"+s, list(text("a"+s), slot("n"), text(s)))
		}
	}
	failTail(t, "\n", 0, api.ErrSyntax)
	failTail(t, "a \n", 2, api.ErrSyntax)
	pass(t, "\x00\r#\xff", list(text("\x00\r#\xff")))
	pass(t, "}{n}}}{m}}", list(text("}"), slot("n"), text("}}"), slot("m"), text("}")))
	pass(t, "#a", list(text("#a")))
	pass(t, "a\r", list(text("a\r")))
}

// P8.1: what begins as a placeholder does, and is none.
func TestDecodeSyntax(t *testing.T) {
	for _, s := range []string{
		"{}", "{N}", "{ n}", "{n }", "{1}", "{-n}", "{n_}", "{n.m}", "{n\n}", "{é}", "{{n}}", "{{n}", "{n{m}", "{\\n}", "{n\\}", "{\\{n}", "{n\\\n}", "{\\\nn}", "{n\t}", "{=}", "{" + longName + "n}",
	} {
		failTail(t, s, 0, api.ErrSyntax)
		failTail(t, `a\\`+s, 3, api.ErrSyntax)
		failTail(t, "{n}\\\n\t"+s, 6, api.ErrSyntax)
	}
	for _, s := range []string{"{n}", "{n-1}", "{" + longName + "}"} {
		for i := 1; i < len(s); i++ {
			fail(t, s[:i], 0, api.ErrSyntax)
			fail(t, "a"+s[:i], 1, api.ErrSyntax)
			fail(t, `\n`+s[:i]+"\n", 2, api.ErrSyntax)
			fail(t, s+s[:i]+" }", len(s), api.ErrSyntax)
		}
	}
}

// P8.1: continuations at every place, with no space, with spaces and with tabs
// behind them; they stand for nothing, and texts around them are one item.
func TestDecodeContinuations(t *testing.T) {
	for _, c := range joints {
		pass(t, c, nil)
		pass(t, c+"a", list(text("a")))
		pass(t, "a"+c, list(text("a")))
		pass(t, "a"+c+"b", list(text("ab")))
		pass(t, " "+c+"b ", list(text(" b ")))
		pass(t, "a"+c+"b"+c+"c", list(text("abc")))
		pass(t, `\n`+c+`\s`, list(text("\n ")))
		pass(t, `\n`+c+"{n}", list(text("\n"), slot("n")))
		pass(t, "{n}"+c+`\\`, list(slot("n"), text(`\`)))
		pass(t, "{n}"+c+"{m}"+c, list(slot("n"), slot("m")))
		pass(t, `\\`+c+`\s n`, list(text(`\  n`)))
		pass(t, "a"+c+"#b=c", list(text("a#b=c")))
		pass(t, "a"+c+"\r", list(text("a\r")))
		fail(t, "a"+c+"\n", 1+len(c), api.ErrSyntax)
		fail(t, "a"+c+"\\", 1+len(c), api.ErrSyntax)
		fail(t, "a"+c+"\\ ", 1+len(c), api.ErrSyntax)
		fail(t, "a"+c+"{", 1+len(c), api.ErrSyntax)
	}
	// Only spaces and tabs belong to a continuation.
	for b := range 256 {
		switch s := string([]byte{byte(b)}); s {
		case " ", "\t":
			pass(t, "a\\\n"+s+s+"b", list(text("ab")))
		case "\n", "\\", "{":
			fail(t, "a\\\n "+s, 4, api.ErrSyntax)
		default:
			pass(t, "a\\\n "+s+" b", list(text("a"+s+" b")))
		}
	}
}

// P8.1: as many items as possible, and one more.
func TestDecodeItems(t *testing.T) {
	n := api.MaxItems
	slots := strings.Repeat("{n}", n)
	pass(t, slots, times(n, slot("n")))
	pass(t, slots+"\\\n \\\n", times(n, slot("n")))
	pass(t, slots[3:]+`abc\n`+"\\\n d", append(times(n-1, slot("n")), text("abc\nd")))
	pass(t, strings.Repeat("{n}a", n/2), slices.Repeat(list(slot("n"), text("a")), n/2))
	pass(t, strings.Repeat("a\\\nb", n/2), list(text(strings.Repeat("ab", n/2))))
	for _, full := range []string{slots, slots + "\\\n ", slots[3:] + "abc", strings.Repeat("a{n}", n/2), strings.Repeat("{n}\\n", n/2), strings.Repeat("{n}\\\n", n)} {
		failTail(t, full+"{n}", len(full), api.ErrLimit)
		if !strings.HasSuffix(full, "c") && !strings.HasSuffix(full, "n") {
			failTail(t, full+"a", len(full), api.ErrLimit)
			failTail(t, full+`\n`, len(full), api.ErrLimit)
		}
	}
	pass(t, strings.Repeat("{n}\\n", n/2)+"a", append(slices.Repeat(list(slot("n"), text("\n")), n/2)[:n-1], text("\na")))
}

// P8.1: as many positions as possible, and one more, reached by bytes, by
// escapes and by placeholders.
func TestDecodePositions(t *testing.T) {
	n := api.MaxLength
	pass(t, strings.Repeat("a", n), list(text(strings.Repeat("a", n))))
	pass(t, strings.Repeat(`\\`, n), list(text(strings.Repeat(`\`, n))))
	pass(t, strings.Repeat("a\\\n\t", n), list(text(strings.Repeat("a", n))))
	pass(t, strings.Repeat("\\\n ", 2*n), nil)
	pass(t, strings.Repeat("a", n-1)+`\s`, list(text(strings.Repeat("a", n-1)+" ")))
	pass(t, strings.Repeat("a", n-1)+"{"+longName+"}", list(text(strings.Repeat("a", n-1)), slot(longName)))
	for _, full := range []string{strings.Repeat("a", n), strings.Repeat(`\n`, n), "{n}" + strings.Repeat(`\s`, n-1), strings.Repeat("a", n-1) + "{n}", strings.Repeat("a", n) + "\\\n  ", strings.Repeat("\\\na", n)} {
		pass(t, full+"\\\n\t ", decoded(t, full))
		for _, more := range []string{"a", "\x00", `\n`, `\\`, "{n}", "}"} {
			failTail(t, full+more, len(full), api.ErrLimit)
		}
	}
	fail(t, strings.Repeat(`\{`, n+1), 2*n, api.ErrLimit)
	fail(t, strings.Repeat("a", 1<<20), n, api.ErrLimit)
	fail(t, "{"+strings.Repeat("a", 1<<20), 0, api.ErrSyntax)
}

// decoded is the fragment of a raw value that can be read.
func decoded(t *testing.T, raw string) []api.Item {
	t.Helper()
	f, at, e := resource.Decode(raw)
	if e != api.OK || at != 0 {
		t.Fatalf("Decode(%.80q) = %d, %d", raw, at, e)
	}
	return f
}

// P8.1: elements for which two errors hold, and elements with different errors
// one behind the other.
func TestDecodeErrorsInOrder(t *testing.T) {
	for _, full := range []string{strings.Repeat("{n}", api.MaxItems), strings.Repeat("a", api.MaxLength), strings.Repeat(`\\`, api.MaxLength), strings.Repeat("a", api.MaxLength) + "\\\n"} {
		n := len(full)
		for _, s := range []string{"\n", "{", `\q`, `\N`, "{N}", "{}"} {
			failTail(t, full+s, n, api.ErrSyntax)
			failTail(t, full+"\\\n "+s, n+3, api.ErrSyntax)
		}
		fail(t, full+`\`, n, api.ErrSyntax)
		failTail(t, full+"{n}{", n, api.ErrLimit)
		failTail(t, full+"{n}\n", n, api.ErrLimit)
		failTail(t, full+"\\\n\t{n}\\q", n+3, api.ErrLimit)
	}
	// The first one of several elements counts, whatever its error.
	fail(t, `a\q{N}`, 1, api.ErrSyntax)
	fail(t, `{N}\q`, 0, api.ErrSyntax)
	fail(t, "\n"+strings.Repeat("a", api.MaxLength+1), 0, api.ErrSyntax)
	fail(t, strings.Repeat("a", api.MaxLength+1)+"\n", api.MaxLength, api.ErrLimit)
	fail(t, strings.Repeat("a", api.MaxLength-1)+"{"+strings.Repeat("a", api.MaxLength), api.MaxLength-1, api.ErrSyntax)
}

// P8.3: the offsets of all elements; continuations belong to what follows them.
func TestCutsValues(t *testing.T) {
	for raw, want := range map[string][]int{
		"":                           {0},
		"a\\\n  b":                   {0, 1, 6},
		"x":                          {0, 1},
		"abc":                        {0, 1, 2, 3},
		`\n\t\s\r\\\{`:               {0, 2, 4, 6, 8, 10, 12},
		`a\nb`:                       {0, 1, 3, 4},
		"{n}":                        {0, 3},
		"a{name}b":                   {0, 1, 7, 8},
		"\xff\x00} ":                 {0, 1, 2, 3, 4},
		"\\\n":                       {0},
		"\\\n \t":                    {0},
		"\\\n\\\n \\\n":              {0},
		"\\\na":                      {0, 3},
		"\\\n  \\\n\ta":              {0, 8},
		"a\\\n":                      {0, 1},
		"a\\\n \\\n":                 {0, 1},
		"a\\\n\\\n b":                {0, 1, 7},
		"a\\\n b\\\nc":               {0, 1, 5, 8},
		"{n}\\\n {m}":                {0, 3, 9},
		`\n` + "\\\n\t" + `\\` + "x": {0, 2, 7, 8},
		"\\\n{n}\\\n\\s\\\n":         {0, 5, 9},
		"ab\\\n \\\n cd\\\n":         {0, 1, 2, 9, 10},
	} {
		if got, e := resource.Cuts(raw); !slices.Equal(got, want) || e != api.OK {
			t.Errorf("Cuts(%q) = %v, %d, not %v", raw, got, e, want)
		}
	}
	got, e := resource.Cuts(strings.Repeat("\\\n\\s", api.MaxLength) + "\\\n")
	if len(got) != api.MaxLength+1 || got[1] != 4 || got[api.MaxLength] != 4*api.MaxLength || e != api.OK {
		t.Errorf("Cuts at the limit = %v, %d", got, e)
	}
}

// encode checks the result of Encode.
func encode(t *testing.T, f []api.Item, want string, e api.Errno) {
	t.Helper()
	if got, err := resource.Encode(f); got != want || err != e {
		t.Errorf("Encode(%.120v) = %q, %d, not %q, %d", f, got, err, want, e)
	}
}

// P8.2: fragments of texts and placeholders, and every byte.
func TestEncodeValues(t *testing.T) {
	for want, f := range map[string][]api.Item{
		"":                         nil,
		`x\ny{n}`:                  list(text("x\ny"), slot("n")),
		`\n\t\r\\\{}`:              list(text("\n\t\r\\{}")),
		"  a = #b ":                list(text("  a = #b ")),
		" ":                        list(text(" ")),
		`\{n}`:                     list(text("{n}")),
		`\\n\\s`:                   list(text(`\n\s`)),
		`\\\n`:                     list(text("\\\n")),
		"{n}{n}":                   list(slot("n"), slot("n")),
		"{n-1}a{" + longName + "}": list(slot("n-1"), text("a"), slot(longName)),
		"\x00\xff\x80é":            list(text("\x00\xff\x80é")),
	} {
		encode(t, f, want, api.OK)
	}
	encode(t, []api.Item{}, "", api.OK)
	encode(t, list(text(strings.Repeat("{", api.MaxLength))), strings.Repeat(`\{`, api.MaxLength), api.OK)
	encode(t, times(api.MaxItems, slot("n")), strings.Repeat("{n}", api.MaxItems), api.OK)
	for b := range 256 {
		s := string([]byte{byte(b)})
		written := map[string]string{"\n": `\n`, "\t": `\t`, "\r": `\r`, `\`: `\\`, "{": `\{`}[s]
		if written == "" {
			written = s
		}
		encode(t, list(text(s)), written, api.OK)
		encode(t, list(text("a"+s+s)), "a"+written+written, api.OK)
		encode(t, list(slot("n"), text(s)), "{n}"+written, api.OK)
	}
}

// P8.2: the errors of item.Validate, also of fragments with tags.
func TestEncodeInvalid(t *testing.T) {
	b := tag(api.Open, 2, "b")
	for _, kind := range []int{math.MinInt, -1, 0, api.Slot + 1, api.Word, api.Sign, math.MaxInt} {
		encode(t, list(tag(kind, 1, "b")), "", api.ErrArgument)
		encode(t, list(b, tag(kind, 1, "b")), "", api.ErrArgument)
	}
	for _, f := range [][]api.Item{
		list(text("")), list(text("a"), text("b")), list(tag(api.Text, 1, "a")), list(tag(api.Text, -1, "\n")),
		list(slot("")), list(slot("N")), list(slot("n}")), list(slot(longName + "n")), list(tag(api.Slot, 1, "n")),
		list(tag(api.Open, 0, "b")), list(tag(api.Open, 1, "B")), list(tag(api.Empty, 1000, "b")), list(tag(api.Empty, 1, "b ")), list(tag(api.Close, 1, "b x")), list(tag(api.Close, -1, "b")),
	} {
		encode(t, f, "", api.ErrArgument)
		encode(t, append(list(b), f...), "", api.ErrArgument)
		encode(t, append(f, tag(api.Empty, 3, "br")), "", api.ErrArgument)
		encode(t, append(f, times(api.MaxItems, slot("n"))...), "", api.ErrLimit)
	}
	for _, f := range [][]api.Item{
		list(b, b), list(b, tag(api.Close, 2, "i")), list(tag(api.Close, 2, "b"), b), list(tag(api.Empty, 2, "b"), b),
	} {
		encode(t, f, "", api.ErrTag)
		encode(t, append(f, text("")), "", api.ErrTag)
	}
	encode(t, times(api.MaxItems+1, slot("n")), "", api.ErrLimit)
	encode(t, list(text(strings.Repeat("a", api.MaxLength+1))), "", api.ErrLimit)
	encode(t, append(times(api.MaxItems, slot("n")), b), "", api.ErrLimit)
	encode(t, list(text(strings.Repeat("\n", api.MaxLength)), b), "", api.ErrLimit)
}

// P8.2: each kind of tag in valid fragments, at each place.
func TestEncodeTags(t *testing.T) {
	for _, f := range [][]api.Item{
		list(tag(api.Open, 1, "b")), list(tag(api.Open, 999, "b x")), list(tag(api.Close, 1, "b")), list(tag(api.Empty, 1, "br")), list(tag(api.Open, 1, "b"), tag(api.Close, 1, "b")),
	} {
		encode(t, f, "", api.ErrTag)
		encode(t, append(list(text("a{"), slot("n")), f...), "", api.ErrTag)
		encode(t, append(f, text("a"), slot("n")), "", api.ErrTag)
		// Behind a tag, an error of Validate still comes first.
		encode(t, append(f, text("")), "", api.ErrArgument)
	}
}

// R2: results share no memory with those of another call, and Encode changes
// nothing of its argument, nor behind it.
func TestResultsAreNew(t *testing.T) {
	const raw, data = "a\\n\\\n {n}", "k=a\n"
	wantF := list(text("a\n"), slot("n"))
	for range 2 {
		pass(t, raw, wantF)
		split(t, data, skeleton("k="), unit("k", "a"), skeleton("\n"))
		f, _, _ := resource.Decode(raw)
		clear(f[:cap(f)])
		parts, _, _ := resource.Split(data)
		clear(parts[:cap(parts)])
		cuts, _ := resource.Cuts(raw)
		if !slices.Equal(cuts, []int{0, 1, 3, 9}) {
			t.Fatalf("Cuts = %v", cuts)
		}
		clear(cuts[:cap(cuts)])
	}
	spare := append(make([]api.Item, 0, 2*len(wantF)), wantF...)
	encode(t, spare, `a\n{n}`, api.OK)
	if !slices.Equal(spare, wantF) || !slices.Equal(spare[len(spare):cap(spare)], make([]api.Item, len(wantF))) {
		t.Error("Encode has changed its argument")
	}
}
