package notation_test

import (
	"fmt"
	"maps"
	"regexp"
	"slices"
	"strconv"
	"strings"
	"testing"

	"bitext/api"
	"bitext/item"
	"bitext/notation"
)

// The tests of this file set the package against a plain statement of the
// promises: a table of the codes of all bytes, a regular expression for each
// form of a tag or slot, and the fragment as a list of elements.

// code is how a byte of a text is written.
func code(b byte) string {
	switch {
	case b == 10:
		return `\n`
	case b == 9:
		return `\t`
	case b < 32 || b == 127:
		return fmt.Sprintf(`\x%02x`, b)
	case strings.IndexByte(`\<{`, b) >= 0:
		return `\` + string([]byte{b})
	}
	return string([]byte{b})
}

// codes are the bytes by their codes.
var codes = func() map[string]byte {
	m := map[string]byte{}
	for b := range 256 {
		m[code(byte(b))] = byte(b)
	}
	return m
}()

const (
	numberForm  = `([1-9][0-9]{0,2}):`
	nameForm    = `([a-z][a-z0-9-]{0,23})`
	contentForm = `([a-z][a-z0-9-]{0,23}(?: [ -;=?-z|~]*[ -.0-;=?-z|~])?)`
)

// tagForms are the forms of the tags by their kinds.
var tagForms = map[int]*regexp.Regexp{
	api.Open:  regexp.MustCompile(`^<` + numberForm + contentForm + `>`),
	api.Close: regexp.MustCompile(`^</` + numberForm + nameForm + `>`),
	api.Empty: regexp.MustCompile(`^<` + numberForm + contentForm + `/>`),
}

var slotForm = regexp.MustCompile(`^\{` + nameForm + `\}`)

// element returns the first element of s with the number of its bytes, or 0.
func element(s string) (api.Item, int) {
	for kind, form := range tagForms {
		if s[0] != '<' {
			break
		}
		if m := form.FindStringSubmatch(s); m != nil && len(m[2]) <= 64 {
			n, _ := strconv.Atoi(m[1])
			return api.Item{Kind: kind, Text: m[2], ID: n}, len(m[0])
		}
	}
	if m := slotForm.FindStringSubmatch(s); m != nil {
		return slot(m[1]), len(m[0])
	}
	for n := 1; n <= 4 && n <= len(s); n++ {
		if b, ok := codes[s[:n]]; ok {
			return text(string([]byte{b})), n
		}
	}
	return api.Item{}, 0
}

// contradicts reports whether the number of x contradicts the elements before.
func contradicts(before []api.Item, x api.Item) bool {
	if x.ID == 0 {
		return false
	}
	return slices.ContainsFunc(before, func(y api.Item) bool {
		opens := x.Kind == api.Close && y.Kind == api.Open && strings.Split(y.Text, " ")[0] == x.Text
		return y.ID == x.ID && !opens
	})
}

// merge returns the elements with one Text item in place of neighbouring ones.
func merge(elements []api.Item) []api.Item {
	var f []api.Item
	for len(elements) > 0 {
		run := ""
		for len(elements) > 0 && elements[0].Kind == api.Text {
			run, elements = run+elements[0].Text, elements[1:]
		}
		if run != "" {
			f = append(f, text(run))
		} else {
			f, elements = append(f, elements[0]), elements[1:]
		}
	}
	return f
}

// parse states P4.2.
func parse(s string) (f []api.Item, at int, e api.Errno) {
	var elements []api.Item
	items := 0
	for at < len(s) {
		x, n := element(s[at:])
		if n == 0 {
			return nil, at, api.ErrSyntax
		}
		if contradicts(elements, x) {
			return nil, at, api.ErrTag
		}
		if n := len(elements); n == 0 || x.Kind != api.Text || elements[n-1].Kind != api.Text {
			items++
		}
		elements = append(elements, x)
		if len(elements) > 1024 || items > 512 {
			return nil, at, api.ErrLimit
		}
		at += n
	}
	return merge(elements), 0, api.OK
}

// format states P4.1 for a valid fragment.
func format(f []api.Item) string {
	s := ""
	for _, x := range f {
		switch x.Kind {
		case api.Open:
			s += fmt.Sprintf("<%d:%s>", x.ID, x.Text)
		case api.Close:
			s += fmt.Sprintf("</%d:%s>", x.ID, x.Text)
		case api.Empty:
			s += fmt.Sprintf("<%d:%s/>", x.ID, x.Text)
		case api.Slot:
			s += "{" + x.Text + "}"
		default:
			for i := range len(x.Text) {
				s += code(x.Text[i])
			}
		}
	}
	return s
}

// checkParse sets Parse against parse, and Format against what was parsed.
func checkParse(t *testing.T, s string) api.Errno {
	t.Helper()
	f, at, e := notation.Parse(s)
	wantF, wantAt, wantE := parse(s)
	if !slices.Equal(f, wantF) || at != wantAt || e != wantE {
		t.Fatalf("Parse(%q) = %v, %d, %d, not %v, %d, %d", s, f, at, e, wantF, wantAt, wantE)
	}
	if e != api.OK {
		return e
	}
	if valid := item.Validate(f); valid != api.OK {
		t.Fatalf("Parse(%q) = %v: not valid, %d", s, f, valid)
	}
	if again, e := notation.Format(f); again != s || e != api.OK {
		t.Fatalf("Format(Parse(%q)) = %q, %d", s, again, e)
	}
	return api.OK
}

// checkFormat sets Format against format, and Parse against what was formatted.
func checkFormat(t *testing.T, f []api.Item) string {
	t.Helper()
	s, e := notation.Format(f)
	if valid := item.Validate(f); valid != api.OK {
		if s != "" || e != valid {
			t.Fatalf("Format(%v) = %q, %d, not %d", f, s, e, valid)
		}
		return ""
	}
	if want := format(f); s != want || e != api.OK {
		t.Fatalf("Format(%v) = %q, %d, not %q", f, s, e, want)
	}
	if again, at, e := notation.Parse(s); !slices.Equal(again, f) || at != 0 || e != api.OK {
		t.Fatalf("Parse(%q) = %v, %d, %d", s, again, at, e)
	}
	if strings.Contains(s, "\n") {
		t.Fatalf("Format(%v) = %q: it contains a byte 10", f, s)
	}
	return s
}

// P4.1 and P4.3: all fragments of up to four items, valid or not.
func TestEveryFragment(t *testing.T) {
	items := list(
		text("a"), text("1:b>"), text("\\n\n"), text(""), text("\r/>"), open(1, "b"), open(1, "b /x"), open(12, "b"), shut(1, "b"), shut(12, "b"), shut(2, "i"),
		empty(1, "b"), empty(2, "b x"), open(0, "b"), open(2, "B"), slot("b"), slot("n-1"), slot("N"), other(9, "b", 1),
	)
	fragments := [][]api.Item{nil}
	for from, n := 0, 4; n > 0; n-- {
		to := len(fragments)
		for _, f := range fragments[from:to] {
			for _, x := range items {
				fragments = append(fragments, append(slices.Clone(f), x))
			}
		}
		from = to
	}
	seen := map[string][]api.Item{}
	for _, f := range fragments {
		s := checkFormat(t, f)
		if item.Validate(f) != api.OK {
			continue
		}
		if twin, ok := seen[s]; ok {
			t.Fatalf("%v and %v have the notation %q", f, twin, s)
		}
		seen[s] = f
	}
	if len(seen) < 5000 {
		t.Errorf("only %d valid fragments", len(seen))
	}
}

// P4.2 and P4.3: all short strings of bytes and pieces of elements.
func TestEveryShortString(t *testing.T) {
	for most, pieces := range map[int]string{
		3: "a \\ < > { } / : 0 1 9 b x n t d f g D \n \t \r \x00 \x1f \x7f \x80 \xff <1:b </1:b {n",
		4: "\\ \\x 0 1 7 d f n < a",
		5: "<1:b> </1:b> <1:b/> <2:b> </2:b> a {n} <1: > /> \\",
		6: "< / 1 : b >",
	} {
		count := map[api.Errno]int{}
		var extend func(prefix string, n int)
		extend = func(prefix string, n int) {
			count[checkParse(t, prefix)]++
			for _, piece := range strings.Split(pieces, " ") {
				if n < most {
					extend(prefix+piece, n+1)
				}
			}
		}
		extend("", 0)
		if count[api.OK] < 50 || count[api.ErrSyntax] < 50 {
			t.Errorf("%q: results %v", pieces, count)
		}
	}
}

// seeds are notations from which others differ in one place.
var seeds = []string{
	"ab", "\\\\\\<\\{\\n\\t\\x0d\\x1f\\x7f}>", "a<12:b>c</12:b>d", "<1:b x/y>a</1:b>", "</3:br><3:b/>", "<999:a b=\"c d\"/>{n-1}x", "<1:b><2:i/>{m}</1:b>", "{a}{b}<10:h1 />",
	"</1:" + strings.Repeat("n", api.MaxName) + "/>", "<1:" + strings.Repeat("n", api.MaxName) + ">", "{" + strings.Repeat("n", api.MaxName) + "}", "<100:a " + strings.Repeat("x", api.MaxTag-2) + "/>",
}

// P4.2 and P4.3: all strings that differ in one byte from a seed, or that are
// cut off, or in which a byte is left out or added.
func TestEveryEdit(t *testing.T) {
	results := map[api.Errno]bool{}
	for _, s := range seeds {
		for i := range len(s) + 1 {
			left, right := s[:i], s[i:]
			results[checkParse(t, left)] = true
			for b := range 256 {
				letter := string([]byte{byte(b)})
				results[checkParse(t, left+letter+right)] = true
				if i < len(s) {
					checkParse(t, left+right[1:])
					checkParse(t, left+letter+right[1:])
				}
			}
		}
	}
	for _, want := range []api.Errno{api.OK, api.ErrSyntax, api.ErrTag} {
		if !results[want] {
			t.Errorf("no result %d, only %v", want, slices.Collect(maps.Keys(results)))
		}
	}
}

// P4.2: all elements at the limits of a fragment, and behind the last that fits.
func TestEveryElementAtTheLimits(t *testing.T) {
	long := strings.Repeat("a", api.MaxLength-2)
	slots := strings.Repeat("{n}", api.MaxItems-2)
	mixed := strings.Repeat("{n}a", api.MaxItems/2-1)
	elements := []string{"a", "\\n", "\\x00", "\xff", "{n}", "<1:b>", "</1:b>", "<2:b/>", "\n", "\\q", "{N}", "<1:B>"}
	results := map[api.Errno]int{}
	for _, start := range []string{long, slots, mixed, "<1:b/>" + long[1:], "<1:b>" + slots[3:]} {
		for _, x := range elements {
			for _, y := range elements {
				results[checkParse(t, start+x+y)]++
				results[checkParse(t, start+x+y+x)]++
			}
		}
	}
	for _, want := range []api.Errno{api.OK, api.ErrSyntax, api.ErrTag, api.ErrLimit} {
		if results[want] < 50 {
			t.Errorf("results %v", results)
		}
	}
}
