package markup_test

import (
	"fmt"
	"math"
	"slices"
	"strconv"
	"strings"
	"testing"

	"bitext/api"
	"bitext/item"
	"bitext/markup"
)

func text(s string) api.Item { return api.Item{Kind: api.Text, Text: s} }

func open(n int, s string) api.Item { return api.Item{Kind: api.Open, Text: s, ID: n} }

func shut(n int, s string) api.Item { return api.Item{Kind: api.Close, Text: s, ID: n} }

func empty(n int, s string) api.Item { return api.Item{Kind: api.Empty, Text: s, ID: n} }

func slot(s string) api.Item { return api.Item{Kind: api.Slot, Text: s} }

// list is a fragment.
func list(items ...api.Item) []api.Item { return items }

// times is a fragment of n equal items.
func times(n int, x api.Item) []api.Item { return slices.Repeat(list(x), n) }

// opens and shuts are the tags with the numbers from 1 to n, and from n to 1.
func opens(n int) []api.Item {
	var f []api.Item
	for i := range n {
		f = append(f, open(i+1, "b"))
	}
	return f
}

func shuts(n int) []api.Item {
	var f []api.Item
	for i := range n {
		f = append(f, shut(n-i, "b"))
	}
	return f
}

// skeleton and unit are parts of a document.
func skeleton(raw string) api.Part { return api.Part{Raw: raw} }

func unit(key, raw string) api.Part { return api.Part{Unit: true, Key: key, Raw: raw} }

var (
	longName    = strings.Repeat("n", api.MaxName)
	longContent = "a " + strings.Repeat("x", api.MaxTag-2)
	blockNames  = []string{"p", "h", "li", "td", "title"}
	// The names that only begin or end as a block name does, or are a piece of one.
	nearNames = []string{"pp", "p1", "p-", "ap", "h1", "hp", "l", "i", "lip", "li-", "ali", "t", "d", "tdd", "tdh", "td0", "tit", "titl", "titles", "title1", "subtitle", "ph"}
)

// pass checks that a raw content has the fragment.
func pass(t *testing.T, raw string, f []api.Item) {
	t.Helper()
	if got, at, e := markup.Decode(raw); !slices.Equal(got, f) || at != 0 || e != api.OK {
		t.Errorf("Decode(%.80q) = %v, %d, %d, not %v", raw, got, at, e, f)
	}
	if got, e := markup.Cuts(raw); len(got) != item.Length(f)+1 || got[0] != 0 && len(f) > 0 || got[len(got)-1] != len(raw) || e != api.OK {
		t.Errorf("Cuts(%.80q) = %v, %d", raw, got, e)
	}
}

// fail checks that Decode reports an error at an offset, Cuts the same error,
// and both nothing else.
func fail(t *testing.T, raw string, at int, want api.Errno) {
	t.Helper()
	if f, got, e := markup.Decode(raw); len(f) != 0 || got != at || e != want {
		t.Errorf("Decode(%.80q) = %v, %d, %d, not %d, %d", raw, f, got, e, at, want)
	}
	if got, e := markup.Cuts(raw); len(got) != 0 || e != want {
		t.Errorf("Cuts(%.80q) = %v, %d, not %d", raw, got, e, want)
	}
}

// failTail checks what fail does, and that it holds whatever follows.
func failTail(t *testing.T, raw string, at int, want api.Errno) {
	t.Helper()
	for _, tail := range []string{"", "a", "\xff\n", "&lt;", "&", "{n}", "<b>", "</b>", "<", strings.Repeat("a", api.MaxLength+1)} {
		fail(t, raw+tail, at, want)
	}
}

// P7.1: the examples, and raw contents with every kind of element.
func TestDecodeValues(t *testing.T) {
	for raw, f := range map[string][]api.Item{
		"":                     nil,
		"a&lt;<b>c</b>{n}":     list(text("a<"), open(1, "b"), text("c"), shut(1, "b"), slot("n")),
		"Hello <b>world</b>!":  list(text("Hello "), open(1, "b"), text("world"), shut(1, "b"), text("!")),
		"Hello, world!":        list(text("Hello, world!")),
		" a  b ":               list(text(" a  b ")),
		"{n}":                  list(slot("n")),
		"{n}{n}":               list(slot("n"), slot("n")),
		"{n-1}a{m}b":           list(slot("n-1"), text("a"), slot("m"), text("b")),
		"{p}{title}":           list(slot("p"), slot("title")),
		"<br/>":                list(empty(1, "br")),
		"<b></b>":              list(open(1, "b"), shut(1, "b")),
		"<a x=\"1\">y</a>":     list(open(1, "a x=\"1\""), text("y"), shut(1, "a")),
		"<a x>b</a><a y>c</a>": list(open(1, "a x"), text("b"), shut(1, "a"), open(2, "a y"), text("c"), shut(2, "a")),
		"<a x/y></a>":          list(open(1, "a x/y"), shut(1, "a")),
		"<a  />":               list(empty(1, "a  ")),
		"<a  ></a>":            list(open(1, "a  "), shut(1, "a")),
		"<a /x/>":              list(empty(1, "a /x")),
		"<b x/ />":             list(empty(1, "b x/ ")),
		"<a &lt;></a>":         list(open(1, "a &lt;"), shut(1, "a")),
		"<a p></a><a p/>":      list(open(1, "a p"), shut(1, "a"), empty(2, "a p")),
		"<" + longContent + "></a>" + "<" + longContent + "/>":                       list(open(1, longContent), shut(1, "a"), empty(2, longContent)),
		"<" + longName + "><" + longName + "/></" + longName + ">{" + longName + "}": list(open(1, longName), empty(2, longName), shut(1, longName), slot(longName)),
	} {
		pass(t, raw, f)
	}
}

// P7.1: the five references, each alone, next to each other and next to bytes;
// what they stand for is not read again.
func TestDecodeReferences(t *testing.T) {
	written := map[string]string{"&lt;": "<", "&gt;": ">", "&amp;": "&", "&lb;": "{", "&rb;": "}"}
	for raw, s := range written {
		pass(t, raw, list(text(s)))
		pass(t, "a"+raw, list(text("a"+s)))
		pass(t, raw+";", list(text(s+";")))
		pass(t, "\xff"+raw+"\x00", list(text("\xff"+s+"\x00")))
		pass(t, "{n}"+raw+"{n}", list(slot("n"), text(s), slot("n")))
		pass(t, "<b>"+raw+"</b>", list(open(1, "b"), text(s), shut(1, "b")))
		for raw2, s2 := range written {
			pass(t, raw+raw2, list(text(s+s2)))
			pass(t, raw+"x"+raw2, list(text(s+"x"+s2)))
		}
	}
	pass(t, "&lt;b&gt;", list(text("<b>")))
	pass(t, "&lt;/b>", list(text("</b>")))
	pass(t, "&lb;n}", list(text("{n}")))
	pass(t, "&lb;n&rb;", list(text("{n}")))
	pass(t, "&amp;lt;", list(text("&lt;")))
	pass(t, "&amp;amp;amp;", list(text("&amp;amp;")))
	for _, s := range []string{"&", "&&", "&;", "&l", "&lt", "&gt ", "&am;", "&amp", "&LT;", "&Lt;", "&lT;", "& lt;", "&lt ;", "&ltt;", "&llt;", "&#60;", "&#x3c;", "&quot;", "&apos;", "&nbsp;", "&lbr;", "&lb", "&rb:", "&x;", "&{n}", "&<b>", "&\x00", "&&lt;"} {
		failTail(t, s, 0, api.ErrSyntax)
		failTail(t, "a{n}&amp;"+s, 9, api.ErrSyntax)
	}
}

// P7.1: every byte, alone and among others.
func TestDecodeEveryByte(t *testing.T) {
	for b := range 256 {
		s := string([]byte{byte(b)})
		switch s {
		case "<", "&", "{":
			fail(t, s, 0, api.ErrSyntax)
			fail(t, "a>"+s, 2, api.ErrSyntax)
			fail(t, s+s, 0, api.ErrSyntax)
		default:
			pass(t, s, list(text(s)))
			pass(t, s+s+"&lt;"+s, list(text(s+s+"<"+s)))
			pass(t, "a"+s+"{n}"+s, list(text("a"+s), slot("n"), text(s)))
			pass(t, "<b>"+s+"</b>"+s, list(open(1, "b"), text(s), shut(1, "b"), text(s)))
		}
	}
	pass(t, "}>\n\x00\xff", list(text("}>\n\x00\xff")))
	pass(t, "{n}}<b>></b>>}{m}}", list(slot("n"), text("}"), open(1, "b"), text(">"), shut(1, "b"), text(">}"), slot("m"), text("}")))
	pass(t, "-->]]>/>", list(text("-->]]>/>")))
}

// P7.1: tags that are nested, with equal names and with different ones, and
// their numbers.
func TestDecodeNesting(t *testing.T) {
	for raw, f := range map[string][]api.Item{
		"<b><b></b></b>":               list(open(1, "b"), open(2, "b"), shut(2, "b"), shut(1, "b")),
		"<b><i>x</i></b>":              list(open(1, "b"), open(2, "i"), text("x"), shut(2, "i"), shut(1, "b")),
		"<b></b><b></b>":               list(open(1, "b"), shut(1, "b"), open(2, "b"), shut(2, "b")),
		"<b></b><i></i>":               list(open(1, "b"), shut(1, "b"), open(2, "i"), shut(2, "i")),
		"<b><i></i><i></i></b><b></b>": list(open(1, "b"), open(2, "i"), shut(2, "i"), open(3, "i"), shut(3, "i"), shut(1, "b"), open(4, "b"), shut(4, "b")),
		"<br/><b><br/></b><br/>":       list(empty(1, "br"), open(2, "b"), empty(3, "br"), shut(2, "b"), empty(4, "br")),
		"<b><b/></b>":                  list(open(1, "b"), empty(2, "b"), shut(1, "b")),
		"<b x><b y>a</b></b>":          list(open(1, "b x"), open(2, "b y"), text("a"), shut(2, "b"), shut(1, "b")),
		"<b><bb></bb></b>":             list(open(1, "b"), open(2, "bb"), shut(2, "bb"), shut(1, "b")),
		"{n}<b>{n}</b>":                list(slot("n"), open(1, "b"), slot("n"), shut(1, "b")),
		"<a><b><c></c></b><d></d></a>": list(open(1, "a"), open(2, "b"), open(3, "c"), shut(3, "c"), shut(2, "b"), open(4, "d"), shut(4, "d"), shut(1, "a")),
	} {
		pass(t, raw, f)
	}
	for raw, at := range map[string]int{
		"</b>": 0, "a</b>": 1, "<b></b></b>": 7, "<br/></br>": 5, "<b></b><i></b>": 10, // no open tag of this name
		"<b>x</i>": 4, "<b><i></b></i>": 6, "<b></i></b>": 3, "<b></bb>": 3, "<bb></b>": 4, "<b x></x>": 5, "<b x></b-x>": 5, "<b><i></i></i>": 10, "<i><b></b></b></i>": 10, "<b><b></b></i>": 10,
	} {
		failTail(t, raw, at, api.ErrTag)
	}
	for _, raw := range []string{"<b>", "a<b>x", "<b></b><b>", "<b><b></b>", "<b><i></i>", "<b><i>", "<b x>{n}&lt;", "<b><br/>", "<b>\n"} {
		fail(t, raw, len(raw), api.ErrTag)
	}
}

// P7.1: each block name, in each kind of tag, with and without content behind a
// space; it need not be nested.
func TestDecodeBlockNames(t *testing.T) {
	for _, name := range blockNames {
		for _, raw := range []string{"<" + name + ">", "</" + name + ">", "<" + name + "/>", "<" + name + " x>", "<" + name + " x=\"1\"/>", "<" + name + "  >", "<" + name + " b/>"} {
			failTail(t, raw, 0, api.ErrSyntax)
			failTail(t, "ab"+raw, 2, api.ErrSyntax)
			failTail(t, "<b>"+raw, 3, api.ErrSyntax)
			failTail(t, "<b></b>"+raw, 7, api.ErrSyntax)
		}
		fail(t, "<"+name+">a</"+name+">", 0, api.ErrSyntax)
		pass(t, "<b "+name+"></b>", list(open(1, "b "+name), shut(1, "b")))
	}
	for _, name := range nearNames {
		pass(t, "<"+name+"></"+name+">", list(open(1, name), shut(1, name)))
		pass(t, "<"+name+" x></"+name+">", list(open(1, name+" x"), shut(1, name)))
		pass(t, "<"+name+"/><"+name+" p/>", list(empty(1, name), empty(2, name+" p")))
		fail(t, "</"+name+">", 0, api.ErrTag)
	}
}

// P7.1: what begins as a tag or placeholder does, and is none.
func TestDecodeSyntax(t *testing.T) {
	for _, s := range []string{
		"<>", "</>", "< >", "<//>", "<b >", "<b />", "<b//>", "<b x//>", "<b x/ //>", "</b >", "</b x>", "</ b>", "</b/>", "< b>", "< /b>", "<\tb>", "<b\tx>", "<b\nx>", "<B>", "</B>", "<bC>", "<1>", "<-b>", "<b_>", "<b.c>", "<b:c>", "<b=1>", "<é>", "<b é>", "<b \x7f>", "<b \x1f>", "<b x\x00>", "<b \xff/>", "<b {n}>", "<b x}>", "<b <i>>", "<b<i>", "<b x<y>", "<!b>", "<?b?>", "<!-->", "<!--x-->", "<!-- -->", "<1:b>", "</1:b>",
		"<" + longName + "n>", "</" + longName + "n>", "<" + longName + "n/>", "<" + longContent + "x>", "<" + longContent + "x/>",
		"{}", "{N}", "{ n}", "{n }", "{1}", "{-n}", "{n_}", "{n.m}", "{n\n}", "{é}", "{{n}}", "{{n}", "{n{m}", "{<b>}", "{n<b>}", "{&lb;}", "{" + longName + "n}",
	} {
		failTail(t, s, 0, api.ErrSyntax)
		failTail(t, "a&rb;"+s, 5, api.ErrSyntax)
		failTail(t, "<b>{n}</b>"+s, 10, api.ErrSyntax)
	}
	for _, s := range []string{"<b>", "</b>", "<br/>", "<" + longContent + ">", "<a x=\"y\"/>", "</" + longName + ">", "{n}", "{" + longName + "}", "&lt;", "&amp;", "&lb;"} {
		for i := 1; i < len(s); i++ {
			fail(t, s[:i], 0, api.ErrSyntax)
			fail(t, "a"+s[:i], 1, api.ErrSyntax)
			fail(t, "<br/>"+s[:i]+"\n", 5, api.ErrSyntax)
		}
	}
	fail(t, "a<", 1, api.ErrSyntax)
	fail(t, "a{", 1, api.ErrSyntax)
	fail(t, "a</", 1, api.ErrSyntax)
}

// P7.1: as many items as possible, and one more.
func TestDecodeItems(t *testing.T) {
	half := api.MaxItems / 2
	nested := strings.Repeat("<b>", half) + strings.Repeat("</b>", half)
	pass(t, nested, append(opens(half), shuts(half)...))
	pass(t, strings.Repeat("{n}", api.MaxItems), times(api.MaxItems, slot("n")))
	pass(t, strings.Repeat("{n}", api.MaxItems-1)+"abc&lt;d", append(times(api.MaxItems-1, slot("n")), text("abc<d")))
	pass(t, strings.Repeat("{n}a", half), slices.Repeat(list(slot("n"), text("a")), half))
	for full, last := range map[string]string{nested: "", strings.Repeat("{n}", api.MaxItems): "", strings.Repeat("<b/>", api.MaxItems): "", strings.Repeat("a{n}", half): "", strings.Repeat("{n}", api.MaxItems-1): "abc"} {
		for _, more := range []string{"a", "&lt;", "{n}", "<b>", "<b/>", "<b></b>"} {
			if last != "" && (more == "a" || more == "&lt;") {
				continue
			}
			failTail(t, full+last+more, len(full+last), api.ErrLimit)
		}
	}
	// A closing tag is one item too many, and so is one that nothing closes.
	failTail(t, "<b>"+strings.Repeat("{n}", api.MaxItems-1)+"</b>", 3*api.MaxItems, api.ErrLimit)
	failTail(t, strings.Repeat("<b>", api.MaxItems)+"</b>", 3*api.MaxItems, api.ErrLimit)
	fail(t, strings.Repeat("<b>", api.MaxItems), 3*api.MaxItems, api.ErrTag)
	pass(t, "<b>"+strings.Repeat("{n}", api.MaxItems-2)+"</b>", slices.Concat(list(open(1, "b")), times(api.MaxItems-2, slot("n")), list(shut(1, "b"))))
	// Texts next to each other are one item, however they are written.
	pass(t, strings.Repeat("a&lt;", half), list(text(strings.Repeat("a<", half))))
}

// P7.1: as many positions as possible, and one more, reached by bytes, by
// references, by placeholders and by tags.
func TestDecodePositions(t *testing.T) {
	n := api.MaxLength
	pass(t, strings.Repeat("a", n), list(text(strings.Repeat("a", n))))
	pass(t, strings.Repeat("&amp;", n), list(text(strings.Repeat("&", n))))
	pass(t, strings.Repeat("a", n-1)+"&lt;", list(text(strings.Repeat("a", n-1)+"<")))
	pass(t, strings.Repeat("a", n-1)+"<b/>", list(text(strings.Repeat("a", n-1)), empty(1, "b")))
	pass(t, "<b>"+strings.Repeat("a", n-2)+"</b>", list(open(1, "b"), text(strings.Repeat("a", n-2)), shut(1, "b")))
	pass(t, strings.Repeat("a", n-1)+"{"+longName+"}", list(text(strings.Repeat("a", n-1)), slot(longName)))
	for _, full := range []string{strings.Repeat("a", n), strings.Repeat("&amp;", n), "{n}" + strings.Repeat("&lt;", n-1), strings.Repeat("a", n-1) + "<b/>", "<b></b>" + strings.Repeat("a", n-2)} {
		for _, more := range []string{"a", "\x00", "&lt;", "&rb;", "{n}", "<b>", "<b/>"} {
			failTail(t, full+more, len(full), api.ErrLimit)
		}
	}
	failTail(t, "<b>"+strings.Repeat("a", n-1)+"</b>", n+2, api.ErrLimit)
	failTail(t, "<b>"+strings.Repeat("a", n), n+2, api.ErrLimit)
	fail(t, "<b>"+strings.Repeat("a", n-1), n+2, api.ErrTag)
	fail(t, strings.Repeat("&amp;", n+1), 5*n, api.ErrLimit)
	fail(t, strings.Repeat("a", 1<<20), n, api.ErrLimit)
}

// P7.1: elements for which two errors hold, and elements with different errors
// one behind the other.
func TestDecodeErrorsInOrder(t *testing.T) {
	for _, full := range []string{strings.Repeat("{n}", api.MaxItems), strings.Repeat("a", api.MaxLength), strings.Repeat("&lt;", api.MaxLength)} {
		n := len(full)
		for _, s := range []string{"<p>", "</p>", "<td/>", "<", "&", "{", "&x;", "{N}", "<B>"} {
			failTail(t, full+s, n, api.ErrSyntax)
		}
		failTail(t, full+"</b>", n, api.ErrTag)
		failTail(t, full+"<b></b></i>", n, api.ErrLimit)
		failTail(t, full+"{n}<p>", n, api.ErrLimit)
	}
	opened := strings.Repeat("<b>", api.MaxItems)
	failTail(t, opened+"</i>", len(opened), api.ErrTag)
	failTail(t, opened+"</p>", len(opened), api.ErrSyntax)
	failTail(t, opened+"<i>", len(opened), api.ErrLimit)
	failTail(t, "<b>"+strings.Repeat("a", api.MaxLength-1)+"</i>", api.MaxLength+2, api.ErrTag)
	// A closing block tag is no tag that fits to an open one.
	failTail(t, "</p>", 0, api.ErrSyntax)
	failTail(t, "<b></p>", 3, api.ErrSyntax)
	// The first one of several elements counts, whatever its error.
	fail(t, "</b>&x;", 0, api.ErrTag)
	fail(t, "&x;</b>", 0, api.ErrSyntax)
	fail(t, "<b></i>&", 3, api.ErrTag)
	fail(t, "<b>&</i>", 3, api.ErrSyntax)
	fail(t, "a{N}</b><p>", 1, api.ErrSyntax)
	fail(t, strings.Repeat("a", api.MaxLength+1)+"<", api.MaxLength, api.ErrLimit)
	fail(t, "<"+strings.Repeat("a", api.MaxLength+1), 0, api.ErrSyntax)
	fail(t, "<b>a<", 4, api.ErrSyntax)
	fail(t, "<b>"+strings.Repeat("a", api.MaxLength), api.MaxLength+2, api.ErrLimit)
}

// P7.3: the offsets of all elements.
func TestCutsValues(t *testing.T) {
	for raw, want := range map[string][]int{
		"":                          {0},
		"&lt;x":                     {0, 4, 5},
		"x":                         {0, 1},
		"abc":                       {0, 1, 2, 3},
		"&lt;&gt;&amp;&lb;&rb;":     {0, 4, 8, 13, 17, 21},
		"a&amp;b":                   {0, 1, 6, 7},
		"<b>x</b>":                  {0, 3, 4, 8},
		"<br/>":                     {0, 5},
		"{n}":                       {0, 3},
		"a{name}b":                  {0, 1, 7, 8},
		"<a x=\"1\">{n}<br/></a>\n": {0, 9, 12, 17, 21, 22},
		"<b><i></i></b>":            {0, 3, 6, 10, 14},
		"\xff\x00}>":                {0, 1, 2, 3, 4},
	} {
		if got, e := markup.Cuts(raw); !slices.Equal(got, want) || e != api.OK {
			t.Errorf("Cuts(%q) = %v, %d, not %v", raw, got, e, want)
		}
	}
	got, e := markup.Cuts(strings.Repeat("&lt;", api.MaxLength))
	if len(got) != api.MaxLength+1 || got[1] != 4 || got[api.MaxLength] != 4*api.MaxLength || e != api.OK {
		t.Errorf("Cuts at the limit = %v, %d", got, e)
	}
}

// encode checks the result of Encode.
func encode(t *testing.T, f []api.Item, want string, e api.Errno) {
	t.Helper()
	if got, err := markup.Encode(f); got != want || err != e {
		t.Errorf("Encode(%.120v) = %q, %d, not %q, %d", f, got, err, want, e)
	}
}

// P7.2: fragments of every kind of item, nested or not.
func TestEncodeValues(t *testing.T) {
	for want, f := range map[string][]api.Item{
		"":                           nil,
		"a&lt;<b>c</b>{n}":           list(text("a<"), open(1, "b"), text("c"), shut(1, "b"), slot("n")),
		"&lt;&amp;&lb;}>":            list(text("<&{}>")),
		"&amp;lt;&amp;amp;&lb;n}":    list(text("&lt;&amp;{n}")),
		"&lt;b>&lt;/b>":              list(text("<b></b>")),
		"\x00\n\t\r \xff\x80é":       list(text("\x00\n\t\r \xff\x80é")),
		"<b x>a</b><br/>{n}":         list(open(7, "b x"), text("a"), shut(7, "b"), empty(9, "br"), slot("n")),
		"</b><i>":                    list(shut(1, "b"), open(2, "i")),
		"<a></b></a>":                list(open(1, "a"), shut(2, "b"), shut(1, "a")),
		"<a><b></a></b>":             list(open(1, "a"), open(2, "b"), shut(1, "a"), shut(2, "b")),
		"{n}{n}":                     list(slot("n"), slot("n")),
		"{p}{title}p":                list(slot("p"), slot("title"), text("p")),
		"<a p><a  /><a x/y></a>":     list(open(1, "a p"), empty(2, "a  "), open(3, "a x/y"), shut(3, "a")),
		"<" + longContent + "/>":     list(empty(999, longContent)),
		"</" + longName + ">":        list(shut(999, longName)),
		"&lt;p>{n}&lt;!-- x -->":     list(text("<p>"), slot("n"), text("<!-- x -->")),
		strings.Repeat("&amp;", 900): list(text(strings.Repeat("&", 900))),
	} {
		encode(t, f, want, api.OK)
	}
	encode(t, []api.Item{}, "", api.OK)
	encode(t, list(text(strings.Repeat("{", api.MaxLength))), strings.Repeat("&lb;", api.MaxLength), api.OK)
	encode(t, times(api.MaxItems, slot("n")), strings.Repeat("{n}", api.MaxItems), api.OK)
	for b := range 256 {
		s := string([]byte{byte(b)})
		written := map[string]string{"<": "&lt;", "&": "&amp;", "{": "&lb;"}[s]
		if written == "" {
			written = s
		}
		encode(t, list(text(s)), written, api.OK)
		encode(t, list(text("a"+s+s)), "a"+written+written, api.OK)
	}
}

// P7.2: the errors of item.Validate, also of fragments with block names.
func TestEncodeInvalid(t *testing.T) {
	for _, kind := range []int{math.MinInt, -1, 0, api.Slot + 1, api.Word, api.Sign, math.MaxInt} {
		encode(t, list(api.Item{Kind: kind, Text: "b", ID: 1}), "", api.ErrArgument)
		encode(t, list(open(1, "p"), api.Item{Kind: kind, Text: "b", ID: 2}), "", api.ErrArgument)
	}
	for _, f := range [][]api.Item{
		list(text("")), list(text("a"), text("b")), list(api.Item{Kind: api.Text, Text: "a", ID: 1}),
		list(slot("")), list(slot("N")), list(slot(longName + "n")), list(api.Item{Kind: api.Slot, Text: "n", ID: 1}),
		list(open(1, "")), list(open(1, "B")), list(open(1, "b ")), list(open(1, "b/")), list(open(1, "b x/")), list(open(1, "b >")), list(open(1, longContent+"x")), list(open(0, "b")), list(open(-1, "b")), list(open(1000, "b")),
		list(empty(1, "")), list(empty(1, "1")), list(empty(1, "b {")), list(empty(1, "b\n")), list(empty(0, "b")), list(empty(math.MaxInt, "b")),
		list(shut(1, "")), list(shut(1, "b x")), list(shut(1, "B")), list(shut(1, "b ")), list(shut(0, "b")), list(shut(1000, "b")), list(shut(math.MinInt, "b")),
	} {
		encode(t, f, "", api.ErrArgument)
		encode(t, append(list(open(2, "p")), f...), "", api.ErrArgument)
		encode(t, append(f, shut(2, "td")), "", api.ErrArgument)
		encode(t, append(f, times(api.MaxItems, slot("n"))...), "", api.ErrLimit)
	}
	for _, f := range [][]api.Item{
		list(open(1, "b"), open(1, "b")), list(open(1, "b"), shut(1, "i")), list(shut(1, "b"), open(1, "b")), list(shut(1, "b"), shut(1, "b")), list(empty(1, "b"), empty(1, "b")), list(open(1, "b"), shut(1, "b"), shut(1, "b")),
	} {
		encode(t, f, "", api.ErrTag)
		encode(t, append(f, text("")), "", api.ErrTag)
	}
	encode(t, times(api.MaxItems+1, slot("n")), "", api.ErrLimit)
	encode(t, list(text(strings.Repeat("a", api.MaxLength+1))), "", api.ErrLimit)
	encode(t, append(times(api.MaxItems, slot("n")), open(1, "p")), "", api.ErrLimit)
	encode(t, list(text(strings.Repeat("a", api.MaxLength)), empty(1, "td")), "", api.ErrLimit)
	// The tags of a block are in the way only where the fragment is valid.
	encode(t, list(open(1, "title"), text("a"), text("b")), "", api.ErrArgument)
	encode(t, list(open(1, "h x"), empty(0, "b")), "", api.ErrArgument)
	encode(t, list(open(1, "p/")), "", api.ErrArgument)
	encode(t, list(shut(1, "p x")), "", api.ErrArgument)
}

// P7.2: each block name in each kind of tag, at each place.
func TestEncodeBlockNames(t *testing.T) {
	for _, name := range blockNames {
		for _, f := range [][]api.Item{
			list(open(1, name)), list(open(1, name+" x")), list(empty(1, name)), list(empty(1, name+" b=\"c\"")), list(shut(1, name)), list(open(1, name), shut(1, name)),
		} {
			encode(t, f, "", api.ErrTag)
			encode(t, slices.Concat(list(text("<"), open(2, "b"), slot("n")), f, list(shut(2, "b"))), "", api.ErrTag)
		}
		encode(t, list(slot(name), text(name)), "{"+name+"}"+name, api.OK)
		encode(t, list(open(1, "b "+name)), "<b "+name+">", api.OK)
		encode(t, list(text("<"+name+">")), "&lt;"+name+">", api.OK)
	}
	for _, name := range nearNames {
		encode(t, list(open(1, name), shut(1, name), empty(2, name+" p")), "<"+name+"></"+name+"><"+name+" p/>", api.OK)
	}
}

// split checks that a document has the parts.
func split(t *testing.T, data string, want ...api.Part) {
	t.Helper()
	if got, at, e := markup.Split(data); !slices.Equal(got, want) || at != 0 || e != api.OK {
		t.Errorf("Split(%.120q) = %+v, %d, %d, not %+v", data, got, at, e, want)
	}
}

// noSplit checks that Split reports an error at an offset, and nothing else.
func noSplit(t *testing.T, data string, at int, want api.Errno) {
	t.Helper()
	if got, n, e := markup.Split(data); len(got) != 0 || n != at || e != want {
		t.Errorf("Split(%.120q) = %+v, %d, %d, not %d, %d", data, got, n, e, at, want)
	}
}

// P7.4: the examples, and ordinary documents.
func TestSplitValues(t *testing.T) {
	split(t, "", skeleton(""))
	split(t, "<p>a</p>", skeleton("<p>"), unit("1", "a"), skeleton("</p>"))
	split(t, "<p>Hello <b>world</b>!</p>", skeleton("<p>"), unit("1", "Hello <b>world</b>!"), skeleton("</p>"))
	split(t, "<p></p>", skeleton("<p>"), unit("1", ""), skeleton("</p>"))
	split(t, "<p>a</p><p>b</p>", skeleton("<p>"), unit("1", "a"), skeleton("</p><p>"), unit("2", "b"), skeleton("</p>"))
	split(t, "<p></p><p></p>", skeleton("<p>"), unit("1", ""), skeleton("</p><p>"), unit("2", ""), skeleton("</p>"))
	split(t, " <h x=\"1\"> a </h>\n<li>&lt;{n}</li> ", skeleton(" <h x=\"1\">"), unit("1", " a "), skeleton("</h>\n<li>"), unit("2", "&lt;{n}"), skeleton("</li> "))
	split(t, "<html><head><title>T</title></head><body class=\"c\"><h>H</h><ul><li>x<br/>y</li><li>z</li></ul></body></html>\n",
		skeleton("<html><head><title>"), unit("1", "T"), skeleton("</title></head><body class=\"c\"><h>"), unit("2", "H"), skeleton("</h><ul><li>"), unit("3", "x<br/>y"), skeleton("</li><li>"), unit("4", "z"), skeleton("</li></ul></body></html>\n"))
	split(t, "<table><tr><td>1</td><td></td></tr></table>", skeleton("<table><tr><td>"), unit("1", "1"), skeleton("</td><td>"), unit("2", ""), skeleton("</td></tr></table>"))
	split(t, "<p>a > b } c\n\x00\xff</p>", skeleton("<p>"), unit("1", "a > b } c\n\x00\xff"), skeleton("</p>"))
	split(t, "<p><pp>a</pp></p>", skeleton("<p>"), unit("1", "<pp>a</pp>"), skeleton("</p>"))
	split(t, "<p><a p></a>{p}p</p>", skeleton("<p>"), unit("1", "<a p></a>{p}p"), skeleton("</p>"))
}

// P7.4: everything outside of blocks is skeleton: all bytes other than <, and
// tags with other names, which need not be nested.
func TestSplitSkeleton(t *testing.T) {
	for _, s := range []string{"a", "a > b", "&", "&x;", "{", "{N}", "}", "-->", "\x00\n\xff", "p>", "/p>", "<b>", "</b>", "<br/>", "</b><i><b>", "<a x=\"1\">", "<a p>", "<pp>", "</h1>", "<titles/>", "<" + longContent + "><" + longName + "/>", "&lt;p>", strings.Repeat("<b>", api.MaxItems+1), strings.Repeat("a", 2*api.MaxLength), "<!---->", "<!--<p>-->"} {
		split(t, s, skeleton(s))
		split(t, s+"<p>"+"</p>"+s, skeleton(s+"<p>"), unit("1", ""), skeleton("</p>"+s))
		split(t, "<td>a</td>"+s+"<li>b</li>", skeleton("<td>"), unit("1", "a"), skeleton("</td>"+s+"<li>"), unit("2", "b"), skeleton("</li>"))
	}
	for b := range 256 {
		if s := string([]byte{byte(b)}); s == "<" {
			noSplit(t, s, 0, api.ErrSyntax)
			noSplit(t, "<p></p>"+s, 7, api.ErrSyntax)
		} else {
			split(t, s, skeleton(s))
			split(t, s+"<p>x</p>"+s, skeleton(s+"<p>"), unit("1", "x"), skeleton("</p>"+s))
		}
	}
	for _, s := range []string{"<", "< b>", "<>", "</>", "<x", "<B>", "<b >", "<b />", "</b >", "</b x>", "<b x<p>", "<1>", "<b\n>", "<!b>", "<!-", "<?x?>", "<" + longContent + "x>", "</" + longName + "n>"} {
		for _, before := range []string{"", "ab", "<p>a</p>", "<!-- < -->", "</b>"} {
			noSplit(t, before+s, len(before), api.ErrSyntax)
			noSplit(t, before+s+"<p>&</p>", len(before), api.ErrSyntax)
		}
	}
}

// P7.4: comments, with any bytes, up to the next end.
func TestSplitComments(t *testing.T) {
	for _, s := range []string{"<!---->", "<!-- -->", "<!--x-->", "<!-- -- -->", "<!-- --->", "<!----->", "<!------>", "<!-- <p> -->", "<!-- <p>a</p> -->", "<!-- </p> -->", "<!-- < & { -->", "<!--<!-- -->", "<!--> -->", "<!---> -->", "<!-- a -- > -->", "<!--\x00\n\xff-->", "<!-- -->-->", "<!-- --> -->", "<!----><!---->", "<!--" + strings.Repeat("x", 2*api.MaxLength) + "-->"} {
		split(t, s, skeleton(s))
		split(t, "a"+s+"b<p>c</p>"+s, skeleton("a"+s+"b<p>"), unit("1", "c"), skeleton("</p>"+s))
	}
	split(t, "<!-- <p>a</p> --><p>b</p><!-- <p>c</p> -->", skeleton("<!-- <p>a</p> --><p>"), unit("1", "b"), skeleton("</p><!-- <p>c</p> -->"))
	for _, s := range []string{"<!--", "<!-->", "<!--->", "<!-- x", "<!-- -", "<!-- --", "<!-- -- >", "<!-- ->", "<!-- <p></p>", "<!-", "<!->", "<!- -->", "<! -->", "< !-- -->"} {
		noSplit(t, s, 0, api.ErrSyntax)
		noSplit(t, "a<!-- -->"+s, 9, api.ErrSyntax)
		noSplit(t, "<p></p>"+s, 7, api.ErrSyntax)
	}
	// The first end counts, so what follows it is read as usual.
	noSplit(t, "<!-- --> < -->", 9, api.ErrSyntax)
	noSplit(t, "<!-- <!-- --></p> -->", 13, api.ErrSyntax)
	for _, s := range []string{"<!-- -->", "<!---->", "<!-- </p> -->", "<!-- x"} {
		noSplit(t, "<p>"+s+"</p>", 3, api.ErrSyntax)
		noSplit(t, "<p>a"+s+"</p>", 4, api.ErrSyntax)
		noSplit(t, "<p>a"+s, 4, api.ErrSyntax)
	}
}

// P7.4: each block name, in each kind of tag.
func TestSplitBlockNames(t *testing.T) {
	for _, name := range blockNames {
		closing := "</" + name + ">"
		for _, opening := range []string{"<" + name + ">", "<" + name + " x>", "<" + name + " a=\"b\" c>", "<" + name + "  >", "<" + name + " /x>"} {
			split(t, opening+"a"+closing, skeleton(opening), unit("1", "a"), skeleton(closing))
			split(t, "x"+opening+closing+"y", skeleton("x"+opening), unit("1", ""), skeleton(closing+"y"))
			noSplit(t, opening, len(opening), api.ErrSyntax)
			noSplit(t, opening+"a", len(opening)+1, api.ErrSyntax)
			noSplit(t, opening+"a</"+name, len(opening)+1, api.ErrSyntax)
			noSplit(t, opening+"a</"+name+" >", len(opening)+1, api.ErrSyntax)
			noSplit(t, opening+"a</"+name+" x>", len(opening)+1, api.ErrSyntax)
			noSplit(t, opening+"<"+name+">a"+closing+closing, len(opening), api.ErrSyntax)
		}
		for _, s := range []string{closing, "<" + name + "/>", "<" + name + " x/>", "<" + name + " >", closing[:len(closing)-1] + " >"} {
			noSplit(t, s, 0, api.ErrSyntax)
			noSplit(t, "ab"+s, 2, api.ErrSyntax)
			noSplit(t, "<b>"+s+"</b>", 3, api.ErrSyntax)
			noSplit(t, "<p>a</p>"+s, 8, api.ErrSyntax)
		}
		for _, other := range blockNames {
			if other == name {
				continue
			}
			noSplit(t, "<"+name+">a</"+other+">", len(name)+3, api.ErrSyntax)
			noSplit(t, "<"+name+">a</"+other+">"+closing, len(name)+3, api.ErrSyntax)
			noSplit(t, "<"+name+">a<"+other+">b</"+other+">"+closing, len(name)+3, api.ErrSyntax)
			noSplit(t, "<"+name+"><"+other+"/>"+closing, len(name)+2, api.ErrSyntax)
		}
	}
	for _, name := range nearNames {
		s := "<" + name + ">a</" + name + " ></p>"
		noSplit(t, s, len(name)+3, api.ErrSyntax)
		s = "<" + name + ">&<" + name + " x/></" + name + ">"
		split(t, s, skeleton(s))
	}
}

// P7.4: blocks whose raw content cannot be read up to their closing tag, and
// blocks without one.
func TestSplitBlockErrors(t *testing.T) {
	for _, x := range []struct {
		data string
		at   int
		want api.Errno
	}{
		{"<p>a&x;</p>", 4, api.ErrSyntax}, {"<p><b></p>", 6, api.ErrTag}, {"<p><b>x</i></p>", 7, api.ErrTag}, {"<p></b></p>", 3, api.ErrTag}, {"<p><B></p>", 3, api.ErrSyntax}, {"<p>{</p>", 3, api.ErrSyntax}, {"<p>a<</p>", 4, api.ErrSyntax}, {"<p>&</p>", 3, api.ErrSyntax},
		// Without a closing tag: what can be read, and what cannot.
		{"<p>", 3, api.ErrSyntax}, {"<p>a", 4, api.ErrSyntax}, {"<p><b>a</b>", 11, api.ErrSyntax}, {"<p><b>a", 7, api.ErrTag}, {"<p><b>", 6, api.ErrTag}, {"<p>a&x;", 4, api.ErrSyntax}, {"<p>a</b>", 4, api.ErrTag}, {"<p>a</li>", 4, api.ErrSyntax}, {"<p>a<li>", 4, api.ErrSyntax}, {"<p>a</P>", 4, api.ErrSyntax}, {"<p>a</pp>", 4, api.ErrTag}, {"<p>a</p", 4, api.ErrSyntax}, {"<p>&lt;/p>", 10, api.ErrSyntax},
		// The bytes of the closing tag count wherever they are.
		{"<p>{a</p>}</p>", 3, api.ErrSyntax}, {"<p><b </p>></b></p>", 3, api.ErrSyntax}, {"<p>a<!-- </p> --></p>", 4, api.ErrSyntax}, {"<p><b></p></b></p>", 6, api.ErrTag}, {"<p><b></p></b>", 6, api.ErrTag}, {"<p>&l</p>t;</p>", 3, api.ErrSyntax}, {"<p></i></p></p>", 3, api.ErrTag},
		{"<p>x</p></p>", 8, api.ErrSyntax}, {"<p>x</p><p>", 11, api.ErrSyntax}, {"ab<p>x</p>y<h>&</h>", 14, api.ErrSyntax}, {"<p>x</p><li><b></li>", 15, api.ErrTag},
		{"<p>" + strings.Repeat("a", api.MaxLength+1) + "</p>", 3 + api.MaxLength, api.ErrLimit}, {"<p>" + strings.Repeat("a", api.MaxLength+1), 3 + api.MaxLength, api.ErrLimit}, {"<p>" + strings.Repeat("a", api.MaxLength), 3 + api.MaxLength, api.ErrSyntax}, {"<p>" + strings.Repeat("{n}", api.MaxItems+1) + "</p>", 3 + 3*api.MaxItems, api.ErrLimit}, {"x<p>" + strings.Repeat("a", api.MaxLength) + "</b></p>", 4 + api.MaxLength, api.ErrTag},
		// The first error of the document counts.
		{"<p>&</p><", 3, api.ErrSyntax}, {"<<p>&</p>", 0, api.ErrSyntax}, {"<p><b></p><", 6, api.ErrTag}, {"</p><p><b></p>", 0, api.ErrSyntax}, {"<p></b></p><p>&", 3, api.ErrTag}, {"<p><b></p><li>&x;</li>", 6, api.ErrTag}, {"<!-- <p>", 0, api.ErrSyntax},
	} {
		noSplit(t, x.data, x.at, x.want)
	}
	full := strings.Repeat("a", api.MaxLength)
	split(t, "<p>"+full+"</p><h>"+full+"</h>", skeleton("<p>"), unit("1", full), skeleton("</p><h>"), unit("2", full), skeleton("</h>"))
}

// P7.4: as many bytes as possible, and one more.
func TestSplitLimit(t *testing.T) {
	for _, s := range []string{"", "<p>a</p>", "<b>", "<!-- -->"} {
		full := strings.Repeat("x", api.MaxDocument-len(s)) + s
		if got, at, e := markup.Split(full); len(got) == 0 || at != 0 || e != api.OK || bytesOf(got) != full {
			t.Errorf("Split of %d bytes = %d parts, %d, %d", len(full), len(got), at, e)
		}
		noSplit(t, "x"+full, 0, api.ErrLimit)
		noSplit(t, full+"x", 0, api.ErrLimit)
	}
	x := strings.Repeat("x", api.MaxDocument-1)
	noSplit(t, x+"<", api.MaxDocument-1, api.ErrSyntax)
	noSplit(t, x+"<b", 0, api.ErrLimit)
	noSplit(t, "<"+x, 0, api.ErrSyntax)
	noSplit(t, "</p>"+x, 0, api.ErrLimit)
	noSplit(t, "<p>&"+x, 0, api.ErrLimit)
	noSplit(t, "ab<"+x, 0, api.ErrLimit)
	noSplit(t, "<p>"+x[3:]+"a", 3+api.MaxLength, api.ErrLimit)
}

// bytesOf is the concatenation of the raw bytes of all parts.
func bytesOf(parts []api.Part) string {
	s := ""
	for _, p := range parts {
		s += p.Raw
	}
	return s
}

// P7.4: the keys of many units.
func TestSplitKeys(t *testing.T) {
	for _, n := range []int{1, 2, 9, 10, 11, 99, 100, 101, 1000, api.MaxDocument / 7} {
		parts, at, e := markup.Split(strings.Repeat("<p></p>", n))
		if len(parts) != 2*n+1 || at != 0 || e != api.OK {
			t.Fatalf("Split of %d blocks = %d parts, %d, %d", n, len(parts), at, e)
		}
		for i, p := range parts {
			if i%2 == 0 && (p.Unit || p.Key != "") || i%2 == 1 && p != unit(strconv.Itoa((i+1)/2), "") {
				t.Fatalf("part %d of %d blocks is %+v", i, n, p)
			}
		}
	}
	var data strings.Builder
	var want []api.Part
	for i := range 12 {
		fmt.Fprintf(&data, "<li>%d</li>", i)
		if i == 0 {
			want = append(want, skeleton("<li>"))
		} else {
			want = append(want, skeleton("</li><li>"))
		}
		want = append(want, unit(strconv.Itoa(i+1), strconv.Itoa(i)))
	}
	split(t, data.String(), append(want, skeleton("</li>"))...)
	if want[17].Key != "9" || want[19].Key != "10" {
		t.Error("the keys 9 and 10 are missing")
	}
}

// R2: results share no memory with those of another call, and Encode changes
// nothing of its argument, nor behind it.
func TestResultsAreNew(t *testing.T) {
	const raw, data = "a<b>c</b>{n}", "<p>a</p>"
	wantF := list(text("a"), open(1, "b"), text("c"), shut(1, "b"), slot("n"))
	for range 2 {
		pass(t, raw, wantF)
		split(t, data, skeleton("<p>"), unit("1", "a"), skeleton("</p>"))
		f, _, _ := markup.Decode(raw)
		clear(f[:cap(f)])
		parts, _, _ := markup.Split(data)
		clear(parts[:cap(parts)])
		cuts, _ := markup.Cuts(raw)
		if !slices.Equal(cuts, []int{0, 1, 4, 5, 9, 12}) {
			t.Fatalf("Cuts = %v", cuts)
		}
		clear(cuts[:cap(cuts)])
	}
	spare := append(make([]api.Item, 0, 2*len(wantF)), wantF...)
	encode(t, spare, raw, api.OK)
	if !slices.Equal(spare, wantF) || !slices.Equal(spare[len(spare):cap(spare)], make([]api.Item, len(wantF))) {
		t.Error("Encode has changed its argument")
	}
}
