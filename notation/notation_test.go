package notation_test

import (
	"fmt"
	"math"
	"slices"
	"strings"
	"testing"

	"bitext/api"
	"bitext/item"
	"bitext/notation"
)

func text(s string) api.Item { return api.Item{Kind: api.Text, Text: s} }

func open(n int, s string) api.Item { return api.Item{Kind: api.Open, Text: s, ID: n} }

func shut(n int, s string) api.Item { return api.Item{Kind: api.Close, Text: s, ID: n} }

func empty(n int, s string) api.Item { return api.Item{Kind: api.Empty, Text: s, ID: n} }

func slot(s string) api.Item { return api.Item{Kind: api.Slot, Text: s} }

// other is an item of any kind, mostly one that is not from Text to Slot.
func other(kind int, s string, n int) api.Item { return api.Item{Kind: kind, Text: s, ID: n} }

// list is a fragment.
func list(items ...api.Item) []api.Item { return items }

// times is a fragment of n equal items.
func times(n int, x api.Item) []api.Item { return slices.Repeat(list(x), n) }

var (
	longName    = strings.Repeat("n", api.MaxName)
	longContent = "a " + strings.Repeat("x", api.MaxTag-2)
)

// pass checks that f and s belong together in both directions.
func pass(t *testing.T, f []api.Item, s string) {
	t.Helper()
	if got, e := notation.Format(f); got != s || e != api.OK {
		t.Errorf("Format(%v) = %q, %d, not %q", f, got, e, s)
	}
	if got, at, e := notation.Parse(s); !slices.Equal(got, f) || at != 0 || e != api.OK {
		t.Errorf("Parse(%q) = %v, %d, %d, not %v", s, got, at, e, f)
	}
}

// fail checks that Parse reports an error at an offset, and nothing else.
func fail(t *testing.T, s string, at int, want api.Errno) {
	t.Helper()
	if f, got, e := notation.Parse(s); len(f) != 0 || got != at || e != want {
		t.Errorf("Parse(%q) = %v, %d, %d, not %d, %d", s, f, got, e, at, want)
	}
}

// P4.1 and P4.2: the examples, and fragments of every kind of item.
func TestNotations(t *testing.T) {
	for s, f := range map[string][]api.Item{
		"":                              nil,
		"<1:b>a\\<b</1:b>{n}":           list(open(1, "b"), text("a<b"), shut(1, "b"), slot("n")),
		"Hello, world!":                 list(text("Hello, world!")),
		" a  b ":                        list(text(" a  b ")),
		"\\\\":                          list(text("\\")),
		"\\\\n\\n":                      list(text("\\n\n")),
		"\\\\\\<1:b>":                   list(text("\\<1:b>")),
		"\\{n}":                         list(text("{n}")),
		"a>b}c/d:e\"'":                  list(text("a>b}c/d:e\"'")),
		"\\x0d\\n\\t\\x0b":              list(text("\r\n\t\v")),
		"x0d":                           list(text("x0d")),
		"\xc3\xa9\x80\xff":              list(text("é\x80\xff")),
		"{n}{n}":                        list(slot("n"), slot("n")),
		"{n-1}a{m}b":                    list(slot("n-1"), text("a"), slot("m"), text("b")),
		"<1:b>":                         list(open(1, "b")),
		"</1:b>":                        list(shut(1, "b")),
		"<1:b/>":                        list(empty(1, "b")),
		"<1:b></1:b>":                   list(open(1, "b"), shut(1, "b")),
		"<2:b x></2:b>":                 list(open(2, "b x"), shut(2, "b")),
		"<1:a><2:b></1:a></2:b>":        list(open(1, "a"), open(2, "b"), shut(1, "a"), shut(2, "b")),
		"</2:b><3:b><4:br/>":            list(shut(2, "b"), open(3, "b"), empty(4, "br")),
		"<1:a x/y>":                     list(open(1, "a x/y")),
		"<1:a  />":                      list(empty(1, "a  ")),
		"<1:a  >":                       list(open(1, "a  ")),
		"<1:a //b/>":                    list(empty(1, "a //b")),
		"<1:a 2:b>":                     list(open(1, "a 2:b")),
		"<1:a \\n>":                     list(open(1, "a \\n")),
		"<1:a href=\"u?v=w\"/>":         list(empty(1, "a href=\"u?v=w\"")),
		"<1:" + longContent + "></1:a>": list(open(1, longContent), shut(1, "a")),
		"<1:" + longContent + "/>":      list(empty(1, longContent)),
		"<1:" + longName + " x></1:" + longName + ">{" + longName + "}": list(open(1, longName+" x"), shut(1, longName), slot(longName)),
	} {
		pass(t, f, s)
	}
	if s, e := notation.Format([]api.Item{}); s != "" || e != api.OK {
		t.Errorf("Format of an empty list = %q, %d", s, e)
	}
}

// P4.1 and P4.2: each byte of a text, alone and among others, and as a byte of
// a string that is no notation.
func TestEveryByteOfText(t *testing.T) {
	for b := range 256 {
		s, want := string([]byte{byte(b)}), code(byte(b))
		for _, frame := range []string{"", "a", ">", "\xff"} {
			pass(t, list(text(frame+s+frame)), frame+want+frame)
			pass(t, list(slot("n"), text(s+s+frame), slot("n")), "{n}"+want+want+frame+"{n}")
			if s != want {
				fail(t, frame+s, len(frame), api.ErrSyntax)
				fail(t, frame+s+" ", len(frame), api.ErrSyntax)
				fail(t, "\\\\{n}"+frame+s+"\xff", 5+len(frame), api.ErrSyntax)
			}
		}
	}
	for s, want := range map[string]string{
		"\\": "\\\\", "<": "\\<", "{": "\\{", "\n": "\\n", "\t": "\\t", "\r": "\\x0d", "\x00": "\\x00", "\x08": "\\x08", "\x0b": "\\x0b", "\x1f": "\\x1f", "\x7f": "\\x7f",
		" ": " ", ">": ">", "}": "}", "/": "/", "~": "~", "\x80": "\x80", "\xff": "\xff",
	} {
		if got, e := notation.Format(list(text(s))); got != want || e != api.OK {
			t.Errorf("Format of the text %q = %q, %d", s, got, e)
		}
	}
}

// P4.2: every byte behind a \; there are no other escapes than those of Format.
func TestEveryEscape(t *testing.T) {
	for b := range 256 {
		s := "\\" + string([]byte{byte(b)})
		switch b {
		case '\\', '<', '{':
			pass(t, list(text(s[1:])), s)
		case 'n':
			pass(t, list(text("\n")), s)
		case 't':
			pass(t, list(text("\t")), s)
		default:
			for _, rest := range []string{"", "a", "zz", "\\n", "{n}"} {
				fail(t, s+rest, 0, api.ErrSyntax)
				fail(t, "a\\n"+s+rest, 3, api.ErrSyntax)
			}
		}
	}
}

// P4.2: every pair of bytes behind \x; only a Control byte or 13 is written so,
// and only with small letters.
func TestEveryHexadecimal(t *testing.T) {
	want := map[string]byte{"\\x0d": 13, "\\x7f": 127}
	for b := range 32 {
		if b != 9 && b != 10 {
			want[fmt.Sprintf("\\x%02x", b)] = byte(b)
		}
	}
	read := 0
	for x := range 256 {
		for y := range 256 {
			s := "\\x" + string([]byte{byte(x), byte(y)})
			b, ok := want[s]
			if !ok {
				fail(t, s, 0, api.ErrSyntax)
				fail(t, "ab"+s+"c", 2, api.ErrSyntax)
				continue
			}
			pass(t, list(text(string([]byte{b}))), s)
			pass(t, list(text(string([]byte{'a', b, '0'}))), "a"+s+"0")
			read++
		}
	}
	if read != 31 {
		t.Errorf("%d escapes with hexadecimal digits", read)
	}
}

// P4.2: escapes that are cut off, at the end of the string and before others.
func TestCutEscapes(t *testing.T) {
	for _, before := range []string{"", "ab", "\\\\", "{n}\\x00", "<1:b>\xff"} {
		for _, s := range []string{"\\", "\\x", "\\x0", "\\x1", "\\x7"} {
			fail(t, before+s, len(before), api.ErrSyntax)
		}
		for _, s := range []string{"\\x", "\\x0", "\\x1", "\\x7"} {
			for _, behind := range []string{"{n}", "<1:b>", "\\n", "\\x0d", "}", "/", "\n"} {
				fail(t, before+s+behind, len(before), api.ErrSyntax)
			}
		}
	}
	pass(t, list(text("\\n")), "\\\\n")
	fail(t, "\\\\\\", 2, api.ErrSyntax)
}

// P4.2: escapes of bytes that stand for themselves, or that are written with
// another escape.
func TestNeedlessEscapes(t *testing.T) {
	for b := range 256 {
		hex := fmt.Sprintf("\\x%02x", b)
		if hex != code(byte(b)) {
			fail(t, hex, 0, api.ErrSyntax)
		}
		if letter := string([]byte{byte(b)}); letter == code(byte(b)) && letter != "n" && letter != "t" {
			fail(t, "\\"+letter, 0, api.ErrSyntax)
		}
	}
	for _, s := range []string{"\\X0d", "\\x0D", "\\x7F", "\\x41", "\\x0a", "\\x09", "\\x20", "\\x5c", "\\x3c", "\\x7b", "\\x80", "\\xff", "\\u000d", "\\r", "\\0", "\\>", "\\}", "\\\n"} {
		fail(t, s, 0, api.ErrSyntax)
		fail(t, "a"+s+"{n}", 1, api.ErrSyntax)
	}
}

// P4.1 and P4.2: every number of a tag.
func TestEveryNumber(t *testing.T) {
	for n := 1; n <= api.MaxID; n++ {
		pass(t, list(open(n, "b"), shut(n, "b")), fmt.Sprintf("<%d:b></%d:b>", n, n))
		pass(t, list(shut(n, "b")), fmt.Sprintf("</%d:b>", n))
		pass(t, list(empty(n, "b")), fmt.Sprintf("<%d:b/>", n))
	}
}

// P4.2: numbers that are too small, too large, or not written in this way.
func TestBadNumbers(t *testing.T) {
	for _, n := range []string{
		"", "0", "00", "01", "001", "0001", "012", "0999", "000", "1000", "1001", "9999", "10000", "2147483648", "4294967297", "9223372036854775807", "9223372036854775808", "18446744073709551617", "-9223372036854775808",
		strings.Repeat("9", 40), "1" + strings.Repeat("0", 300), strings.Repeat("0", 300) + "1", strings.Repeat("1", 5000),
		"+1", "-1", "-0", " 1", "1 ", "1a", "a1", "b", "1.0", "1e1", "0x1", "0b1", "0o1", "1_0", "1,0", "'1'", "\u0661", "\uff11", "1\x00", "\n1", "1:", "//1", "1/", "\\1",
	} {
		for _, s := range []string{"<" + n + ":b>", "</" + n + ":b>", "<" + n + ":b/>"} {
			fail(t, s, 0, api.ErrSyntax)
			fail(t, "a\\n"+s+"</1:b>", 3, api.ErrSyntax)
		}
	}
}

// P4.2: every beginning of a tag or slot that lacks its end.
func TestCutElements(t *testing.T) {
	for _, s := range []string{"<1:b>", "</1:b>", "<1:b/>", "{n}", "<999:" + longContent + ">", "<12:" + longContent + "/>", "</100:" + longName + ">", "{" + longName + "}", "<1:a x=\"y\">"} {
		for i := 1; i < len(s); i++ {
			for _, before := range []string{"", "a", "\\t>", "<7:b/>{n}"} {
				fail(t, before+s[:i], len(before), api.ErrSyntax)
				fail(t, before+s[:i]+"\n", len(before), api.ErrSyntax)
			}
		}
	}
	for _, s := range []string{"<", "{", "<>", "</>", "<:>", "<1>", "<1/>", "</1>", "<b>", "</b>", "<b/>", "{}", "<1b>", "<1;b>", "<!1:b>", "< 1:b>", "<1 :b>", "<1: b>", "</ 1:b>", "< /1:b>"} {
		fail(t, s, 0, api.ErrSyntax)
		fail(t, "ab"+s+"<1:b>", 2, api.ErrSyntax)
	}
	// Another element inside does not end the one that it stands in.
	for _, s := range []string{"<1:b{n}>", "<1:b<2:i>", "{n<1:b>", "{n{m}", "<1:b x{n}>", "{n\\}}"} {
		fail(t, s, 0, api.ErrSyntax)
	}
	// A \ escapes nothing inside a tag.
	pass(t, list(open(1, "b x\\"), text(">")), "<1:b x\\>>")
}

// P4.2: contents that item.IsContent refuses, and one byte too many of each.
func TestBadContents(t *testing.T) {
	for _, s := range []string{
		"", " ", "b ", "B", "1", "-", "bB", "b_", " b", "b\t", "b\tx", "b \t", "b x\n", "b \x00", "b \x1f", "b \x7f", "b \x80", "b \xff", "é", "b é", "b <", "b {", "b }", "b<", "b{", "b}", "b x/y{", "b=x",
		longName + "n", longName + "n x", longContent + "x", longContent + " ", longContent + longContent,
	} {
		if item.IsContent(s) {
			t.Errorf("IsContent(%q) is true", s)
		}
		fail(t, "<1:"+s+">", 0, api.ErrSyntax)
		fail(t, "<1:"+s+"/>", 0, api.ErrSyntax)
		fail(t, "{n}ab<1:"+s+">c", 5, api.ErrSyntax)
	}
	for _, s := range []string{"", " ", "b ", "B", "1", "-b", "bB", "b_", "b x", " b", "b/", "/b", "/", "b\n", "b\x7f", "b\xff", "é", "b<", "b{", longName + "n"} {
		fail(t, "</1:"+s+">", 0, api.ErrSyntax)
		fail(t, "ab{"+s+"}", 2, api.ErrSyntax)
	}
}

// P4.2: every byte in a content, in a name and in a slot.
func TestEveryByteOfContent(t *testing.T) {
	for b := range 256 {
		s := string([]byte{byte(b)})
		if s == ">" || s == "}" {
			continue // it ends the element, so what follows is text
		}
		for _, content := range []string{"b" + s, "b " + s + "y", "b x" + s + "y", s + "b", "b" + s + "y"} {
			if item.IsContent(content) {
				pass(t, list(open(1, content)), "<1:"+content+">")
				pass(t, list(empty(1, content)), "<1:"+content+"/>")
			} else if s != "/" {
				fail(t, "<1:"+content+">", 0, api.ErrSyntax)
				fail(t, "<1:"+content+"/>", 0, api.ErrSyntax)
			}
		}
		for _, name := range []string{s, "b" + s, "b" + s + "y"} {
			if strings.Contains("abcdefghijklmnopqrstuvwxyz", s) || name != s && strings.Contains("0123456789-", s) {
				pass(t, list(shut(1, name), slot(name)), "</1:"+name+">{"+name+"}")
			} else {
				fail(t, "</1:"+name+">", 0, api.ErrSyntax)
				fail(t, "{"+name+"}", 0, api.ErrSyntax)
			}
		}
	}
	pass(t, list(open(1, "b x"), text("y>"), slot("n"), text("m}")), "<1:b x>y>{n}m}")
}

// P4.2: an Empty, an Open and a Close that look alike.
func TestLookAlikes(t *testing.T) {
	pass(t, list(empty(1, "b")), "<1:b/>")
	pass(t, list(shut(1, "b")), "</1:b>")
	pass(t, list(open(1, "b /x")), "<1:b /x>")
	pass(t, list(empty(1, "b x")), "<1:b x/>")
	pass(t, list(empty(1, "b x ")), "<1:b x />")
	pass(t, list(open(1, "b"), text("/>")), "<1:b>/>")
	for _, s := range []string{"</1:b/>", "<//1:b>", "<1/:b>", "<1:/b>", "<1:b//>", "<1:b x//>", "</1:b x>", "</1:b x/>", "<1:/>", "<1://>", "<1:b />", "</1:b >", "</1:/b>", "<\\1:b>", "<1:b\\>"} {
		fail(t, s, 0, api.ErrSyntax)
	}
}

// P4.2: every triple of tags with one number or two; the error stands where the
// first of them begins that contradicts those before it.
func TestContradictions(t *testing.T) {
	tags := list(open(1, "b"), open(1, "b x"), open(1, "i"), shut(1, "b"), shut(1, "i"), empty(1, "b"), empty(1, "i"), open(11, "b"), shut(11, "b"))
	for _, x := range tags {
		for _, y := range tags {
			for _, z := range tags {
				f := list(x, text("<"), y, slot("n"), z)
				s := format(f)
				if item.Validate(f[:3]) != api.OK {
					fail(t, s, len(format(f[:2])), api.ErrTag)
				} else if item.Validate(f) != api.OK {
					fail(t, s, len(format(f[:4])), api.ErrTag)
				} else {
					pass(t, f, s)
				}
			}
		}
	}
	fail(t, "<1:b></2:b></1:i>", 11, api.ErrTag)
	fail(t, "<1:b x>a</1:b>b</1:b>", 15, api.ErrTag)
	fail(t, "<1:b></1:b><1:b></1:b>", 11, api.ErrTag)
	fail(t, "</5:b>a<5:b>", 7, api.ErrTag)
	fail(t, "<5:b/>\\n</5:b>", 8, api.ErrTag)
}

// P4.2: MaxItems items and one more of each kind.
func TestItemLimit(t *testing.T) {
	const size = len("{n}")
	slots := times(api.MaxItems, slot("n"))
	full := strings.Repeat("{n}", api.MaxItems)
	pass(t, slots, full)
	for _, last := range []string{"a", ">", "\\n", "\\x00", "{m}", "<1:b>", "</1:b>", "<1:b/>"} {
		fail(t, full+last, len(full), api.ErrLimit)
		fail(t, full+last+last+"\n", len(full), api.ErrLimit)
		f, at, e := notation.Parse(full[size:] + last)
		if len(f) != api.MaxItems || at != 0 || e != api.OK {
			t.Errorf("Parse of %d slots and %q = %d items, %d, %d", api.MaxItems-1, last, len(f), at, e)
		}
	}
	// A text takes one item, however long it is, also as the last one.
	pass(t, append(slots[1:], text("a\n<z")), full[size:]+"a\\n\\<z")
	fail(t, full[size:]+"a\\n\\<z{n}", len(full)-size+6, api.ErrLimit)
	pairs := strings.Repeat("{n}ab", api.MaxItems/2)
	if f, at, e := notation.Parse(pairs + "c"); len(f) != api.MaxItems || at != 0 || e != api.OK {
		t.Errorf("Parse of slots and texts = %d items, %d, %d", len(f), at, e)
	}
	fail(t, pairs+"c{n}", len(pairs)+1, api.ErrLimit)
	var tags []api.Item
	for n := range api.MaxItems {
		tags = append(tags, empty(n+1, "br"))
	}
	pass(t, tags, format(tags))
	fail(t, format(tags)+"<999:br/>", len(format(tags)), api.ErrLimit)
	// A tag or slot takes one position, however long it is.
	tags[0], tags[1] = shut(1, longName), text(strings.Repeat("a", api.MaxLength-api.MaxItems+1))
	for n := 2; n < api.MaxItems; n += 2 {
		tags[n], tags[n+1] = open(n+1, longContent), slot(longName)
	}
	pass(t, tags, format(tags))
	fail(t, format(tags)+"{n}", len(format(tags)), api.ErrLimit)
}

// P4.2: MaxLength positions and one more, however many bytes each has.
func TestLengthLimit(t *testing.T) {
	for _, x := range []struct{ text, code string }{{"a", "a"}, {"\n", "\\n"}, {"\x00", "\\x00"}, {"\xff", "\xff"}, {"\\", "\\\\"}} {
		full := strings.Repeat(x.code, api.MaxLength)
		pass(t, list(text(strings.Repeat(x.text, api.MaxLength))), full)
		for _, last := range []string{"a", "\\n", "\\x7f", "{n}", "<1:b>", "</1:b>", "<1:b/>"} {
			fail(t, full+last, len(full), api.ErrLimit)
			fail(t, full+last+last+"\n", len(full), api.ErrLimit)
			less := full[len(x.code):]
			if f, at, e := notation.Parse(less + last); item.Length(f) != api.MaxLength || at != 0 || e != api.OK {
				t.Errorf("Parse of %d %q and %q = %v, %d, %d", api.MaxLength-1, x.code, last, f, at, e)
			}
			fail(t, last+less+last, len(last+less), errorOfTwice(last))
		}
	}
}

// errorOfTwice is the error where an element occurs once more beyond the limit.
func errorOfTwice(s string) api.Errno {
	if strings.HasPrefix(s, "<") {
		return api.ErrTag
	}
	return api.ErrLimit
}

// P4.2: elements with two errors at once, and errors of neighbouring elements.
func TestTwoErrors(t *testing.T) {
	slots := strings.Repeat("{n}", api.MaxItems)
	long := strings.Repeat("a", api.MaxLength)
	both := strings.Repeat("{n}", api.MaxItems-1) + strings.Repeat("a", api.MaxLength-api.MaxItems+1)
	for _, full := range []string{slots, long, both} {
		// ErrSyntax before ErrLimit
		for _, s := range []string{"\n", "\t", "\r", "\x00", "\x7f", "\\q", "\\", "\\x41", "\\x0", "{N}", "{n", "<1:B>", "<0:b>", "<1000:b/>", "</1:b x>", "<1:b", "<"} {
			fail(t, full+s, len(full), api.ErrSyntax)
		}
		// the error of an earlier element before all errors of a later one
		fail(t, full+"{n}\n", len(full), api.ErrLimit)
		fail(t, full+"<1:b/><1:b/>", len(full), api.ErrLimit)
		fail(t, "\n"+full+"{n}", 0, api.ErrSyntax)
		fail(t, "<1:b/><1:b/>"+full, 6, api.ErrTag)
	}
	for _, full := range []string{"<1:b/>" + slots[3:], "<1:b/>" + long[1:], "<1:b/>" + both[3:]} {
		// ErrTag before ErrLimit, and ErrSyntax before both
		for _, s := range []string{"<1:b/>", "<1:b>", "</1:b>", "<1:i x>", "</1:i>"} {
			fail(t, full+s, len(full), api.ErrTag)
			fail(t, full+s+"\n", len(full), api.ErrTag)
			fail(t, full+"{n}"+s, len(full), api.ErrLimit)
		}
		for _, s := range []string{"<1:b x", "</1:B>", "<1:/>", "<01:b>", "</1:b/>"} {
			fail(t, full+s, len(full), api.ErrSyntax)
		}
	}
	// ErrSyntax before ErrTag
	for _, s := range []string{"<1:B>", "<1:b", "<1:b />", "</1:b x>", "</1:B>", "<01:b/>", "</1:b/>"} {
		fail(t, "<1:b/>"+s, 6, api.ErrSyntax)
	}
	fail(t, "<1:b/><1:b/>\n", 6, api.ErrTag)
	fail(t, "<1:b/>\n<1:b/>", 6, api.ErrSyntax)
}

// P4.1: fragments that are not valid, for each error of Validate.
func TestFormatErrors(t *testing.T) {
	for want, fragments := range map[api.Errno][][]api.Item{
		api.ErrLimit: {
			times(api.MaxItems+1, slot("n")), list(text(strings.Repeat("a", api.MaxLength+1))), list(slot("n"), text(strings.Repeat("a", api.MaxLength))), times(api.MaxItems+1, text("")), append(times(api.MaxItems, slot("n")), other(9, "", 0)),
		},
		api.ErrArgument: {
			list(text("")), list(text("a"), text("b")), list(other(api.Text, "a", 1)), list(slot("")), list(slot("N")), list(slot(longName + "n")), list(other(api.Slot, "n", 1)),
			list(open(1, "")), list(open(1, "b ")), list(open(1, "b/")), list(open(1, "b x/")), list(open(1, "b >")), list(open(1, longContent+"x")), list(open(0, "b")), list(open(-1, "b")), list(open(api.MaxID+1, "b")), list(open(math.MaxInt, "b")), list(open(math.MinInt, "b")),
			list(empty(1, "")), list(empty(1, "b/")), list(empty(0, "b")), list(empty(api.MaxID+1, "b")), list(shut(1, "")), list(shut(1, "b x")), list(shut(1, "b/")), list(shut(1, longName+"n")), list(shut(0, "b")), list(shut(api.MaxID+1, "b")),
			list(other(0, "", 0)), list(other(api.Word, "a", 0)), list(other(-1, "b", 1)), list(other(math.MaxInt, "", 0)), list(other(math.MinInt, "", 0)), list(text("a"), slot("n"), text("b"), text("c")), list(text("\n"), slot("N"), open(1, "b"), open(1, "b")),
		},
		api.ErrTag: {
			list(open(1, "b"), open(1, "b")), list(open(1, "b"), empty(1, "b")), list(open(1, "b"), shut(1, "i")), list(shut(1, "b"), open(1, "b")), list(shut(1, "b"), shut(1, "b")), list(empty(1, "b"), shut(1, "b")), list(empty(1, "b"), empty(1, "b")), list(open(1, "b"), shut(1, "b"), shut(1, "b")), list(open(1, "b"), open(1, "b"), slot("N")),
		},
	} {
		for _, f := range fragments {
			if s, e := notation.Format(f); s != "" || e != want {
				t.Errorf("Format(%v) = %q, %d, not %d", f, s, e, want)
			}
		}
	}
}

// P4.3: different valid fragments that nearly look alike.
func TestNotationsDiffer(t *testing.T) {
	seen := map[string]bool{}
	fragments := [][]api.Item{
		nil, list(text("<1:b>")), list(open(1, "b")), list(text("{n}")), list(slot("n")), list(text("\n")), list(text("\\n")), list(text("\\\n")), list(text("\r")), list(text("\\x0d")), list(text("x0d")),
		list(empty(1, "b")), list(shut(1, "b")), list(text("</1:b>")), list(open(1, "b"), text("/>")), list(open(1, "b x")), list(empty(1, "b x")), list(empty(1, "b x ")), list(open(1, "b  ")), list(open(11, "b")), list(open(1, "b1")), list(slot("n"), slot("n")), list(slot("nn")),
	}
	for _, f := range fragments {
		s, e := notation.Format(f)
		if e != api.OK || seen[s] {
			t.Errorf("Format(%v) = %q, %d: not the first with this notation", f, s, e)
		}
		seen[s] = true
		pass(t, f, s)
	}
}

// R2: Format leaves its argument and the spare capacity as they are, and a result
// of Parse is new memory.
func TestMemory(t *testing.T) {
	f := list(open(3, "b"), text("a\n"), slot("n"), shut(3, "b"), text("<"))
	spare := slices.Repeat(f, 3)[:len(f)]
	want := "<3:b>a\\n{n}</3:b>\\<"
	if s, e := notation.Format(spare); s != want || e != api.OK {
		t.Fatalf("Format(%v) = %q, %d", f, s, e)
	}
	if !slices.Equal(spare[:cap(spare)][:3*len(f)], slices.Repeat(f, 3)) {
		t.Errorf("Format changed its argument: %v", spare[:cap(spare)])
	}
	first, _, _ := notation.Parse(want)
	for i := range first[:cap(first)] {
		first[:cap(first)][i] = other(77, "spoilt", 77)
	}
	pass(t, f, want)
}

// R1: long strings end soon or late, but they end.
func TestLongStrings(t *testing.T) {
	for _, unit := range []string{"<", "{", "\\", "a", "<1:b", "{n", "\\x", "<1:", "</", "\n", "<1:b/>", "1", "\\n"} {
		s := strings.Repeat(unit, 1<<18)
		f, at, e := notation.Parse(s)
		if len(f) != 0 || e == api.OK || at > 6*api.MaxLength {
			t.Errorf("Parse of many %q = %d items, %d, %d", unit, len(f), at, e)
		}
	}
}
