package sheet_test

import (
	"regexp"
	"slices"
	"sort"
	"strconv"
	"strings"
	"testing"

	"bitext/api"
	"bitext/item"
	"bitext/sheet"
)

// The tests of this file set the package against a plain statement of the
// promises: a regular expression for each form of an element and of a field, and a
// table as the list of all its fields.

var (
	doubledForm = regexp.MustCompile(`^(""|\{\{)`)
	slotForm    = regexp.MustCompile(`^\{([a-z][a-z0-9-]{0,23})\}`)
	byteForm    = regexp.MustCompile(`^[^"{]`)
	fieldForm   = regexp.MustCompile(`^("((?:[^"]|"")*)"|[^",\n]*)(,|\n|$)`)
)

// elementAt is the element at an offset, if there is one, and the offset behind
// it.
func elementAt(raw string, at int) (x api.Item, end int, ok bool) {
	rest := raw[at:]
	if s := doubledForm.FindString(rest); s != "" {
		return text(s[:1]), at + 2, true
	}
	if m := slotForm.FindStringSubmatch(rest); m != nil {
		return slot(m[1]), at + len(m[0]), true
	}
	if byteForm.MatchString(rest) {
		return text(rest[:1]), at + 1, true
	}
	return api.Item{}, 0, false
}

// fragmentOf is the fragment of a list of elements.
func fragmentOf(elements []api.Item) []api.Item {
	var f []api.Item
	for _, x := range elements {
		if last := len(f) - 1; x.Kind == api.Text && last >= 0 && f[last].Kind == api.Text {
			f[last].Text += x.Text
		} else {
			f = append(f, x)
		}
	}
	return f
}

// tooLong reports whether the fragment of a list of elements is beyond a limit.
func tooLong(elements []api.Item) bool {
	f := fragmentOf(elements)
	return len(f) > 512 || item.Length(f) > 1024
}

// decode states P9.1 and P9.3.
func decode(raw string) (f []api.Item, cuts []int, at int, e api.Errno) {
	var elements []api.Item
	for at < len(raw) && e == api.OK {
		if x, end, ok := elementAt(raw, at); ok {
			elements, cuts, at = append(elements, x), append(cuts, at), end
		} else {
			e = api.ErrSyntax
		}
	}
	// What is too long stays so with every further element.
	if tooLong(elements) {
		n := sort.Search(len(elements), func(n int) bool { return tooLong(elements[:n]) })
		return nil, nil, cuts[n-1], api.ErrLimit
	}
	if e != api.OK {
		return nil, nil, at, e
	}
	return fragmentOf(elements), append(cuts, len(raw)), 0, api.OK
}

// encoded states P9.2.
func encoded(f []api.Item) (string, api.Errno) {
	if e := item.Validate(f); e != api.OK {
		return "", e
	}
	s := ""
	for _, x := range f {
		switch x.Kind {
		case api.Text:
			s += strings.ReplaceAll(strings.ReplaceAll(x.Text, `"`, `""`), "{", "{{")
		case api.Slot:
			s += "{" + x.Text + "}"
		default:
			return "", api.ErrTag
		}
	}
	return s, api.OK
}

// cell is a field of a table: where it begins, its place in the table, its raw
// content, if it is quoted, or else its bytes.
type cell struct {
	at, record, column int
	quoted, last       bool // of its record
	s                  string
}

// cellsOf are the fields of a table up to the first one that is neither bare nor
// quoted; wrong is that field, if there is one.
func cellsOf(data string) (cells []cell, wrong cell, ok bool) {
	x := cell{}
	for {
		m := fieldForm.FindStringSubmatch(data[x.at:])
		if m == nil {
			return cells, x, false
		}
		x.quoted, x.s, x.last = strings.HasPrefix(m[1], `"`), m[1], m[3] != ","
		if x.quoted {
			x.s = m[2]
		}
		cells = append(cells, x)
		end := x.at + len(m[0])
		if x.last && end == len(data) {
			return cells, cell{}, true
		}
		if x.last {
			x = cell{at: end, record: x.record + 1}
		} else {
			x = cell{at: end, record: x.record, column: x.column + 1}
		}
	}
}

// parts states P9.4.
func parts(data string) (l []api.Part, at int, e api.Errno) {
	if len(data) > 65536 {
		return nil, 0, api.ErrLimit
	}
	cells, wrong, ok := cellsOf(data)
	if !ok && wrong.record == 0 {
		return nil, wrong.at, api.ErrSyntax
	}
	texts, columns := []int{}, 0
	for _, x := range cells {
		if x.record == 0 && !x.quoted && x.s == "text" {
			texts = append(texts, x.column)
		}
		if x.record == 0 {
			columns++
		}
	}
	if len(texts) == 0 {
		return nil, 0, api.ErrMissing
	}
	if len(texts) > 1 {
		return nil, 0, api.ErrDuplicate
	}
	done, start := 0, 0
	for _, x := range cells {
		if x.column == 0 {
			start = x.at
		}
		if x.record == 0 {
			continue
		}
		if x.column >= columns || x.column == texts[0] && !x.quoted {
			return nil, x.at, api.ErrSyntax
		}
		if x.column == texts[0] {
			if _, _, n, e := decode(x.s); e != api.OK {
				return nil, x.at + 1 + n, e
			}
			l = append(l, skeleton(data[done:x.at+1]), unit(strconv.Itoa(x.record), x.s))
			done = x.at + 1 + len(x.s)
		}
		if x.last && x.column+1 < columns {
			return nil, start, api.ErrSyntax
		}
	}
	if !ok {
		return nil, wrong.at, api.ErrSyntax
	}
	return append(l, skeleton(data[done:])), 0, api.OK
}

// checkDecode sets Decode and Cuts against decode, and Encode against what was
// decoded.
func checkDecode(t *testing.T, raw string) api.Errno {
	t.Helper()
	wantF, wantCuts, wantAt, wantE := decode(raw)
	if f, at, e := sheet.Decode(raw); !slices.Equal(f, wantF) || at != wantAt || e != wantE {
		t.Fatalf("Decode(%.200q) = %v, %d, %d, not %v, %d, %d", raw, f, at, e, wantF, wantAt, wantE)
	}
	if cuts, e := sheet.Cuts(raw); !slices.Equal(cuts, wantCuts) || e != wantE {
		t.Fatalf("Cuts(%.200q) = %v, %d, not %v, %d", raw, cuts, e, wantCuts, wantE)
	}
	if wantE != api.OK {
		return wantE
	}
	if e := item.Validate(wantF); e != api.OK {
		t.Fatalf("Decode(%.200q) = %v: not valid, %d", raw, wantF, e)
	}
	// No fragment has two raw contents.
	if again, e := sheet.Encode(wantF); again != raw || e != api.OK {
		t.Fatalf("Encode(Decode(%.200q)) = %.200q, %d", raw, again, e)
	}
	return api.OK
}

// checkSplit sets Split against parts; the parts concatenate to data.
func checkSplit(t *testing.T, data string) api.Errno {
	t.Helper()
	want, wantAt, wantE := parts(data)
	got, at, e := sheet.Split(data)
	if !slices.Equal(got, want) || at != wantAt || e != wantE {
		t.Fatalf("Split(%q) = %+v, %d, %d, not %+v, %d, %d", data, got, at, e, want, wantAt, wantE)
	}
	if e != api.OK {
		return e
	}
	if bytesOf(got) != data || len(got)%2 == 0 {
		t.Fatalf("Split(%q) = %+v", data, got)
	}
	for i, p := range got {
		if p.Unit != (i%2 == 1) || p.Unit && checkDecode(t, p.Raw) != api.OK {
			t.Fatalf("Split(%q) = %+v: part %d", data, got, i)
		}
	}
	return api.OK
}

// strs calls use with all strings of at most n of the pieces.
func strs(n int, pieces []string, use func(s string)) {
	var extend func(s string, n int)
	extend = func(s string, n int) {
		use(s)
		for _, piece := range pieces {
			if n > 0 {
				extend(s+piece, n-1)
			}
		}
	}
	extend("", n)
}

// P9.1, P9.2 and P9.3: all short raw contents of bytes and pieces of elements.
func TestDecodeAll(t *testing.T) {
	for most, pieces := range map[int][]string{
		3: {"a", " ", "\t", "\n", "\r", "\\", "{", "}", "\"", ",", "N", "-", "0", "<", "&", "\x00", "\x80", "\xff", "{n", "{n}", "{{", "\"\"", "é"},
		5: {`""`, "{{", "{n}", "{", `"`, "}", "n"},
		7: {"{", "n", "}", `"`},
		9: {"{", "n}", `"`},
	} {
		count := map[api.Errno]int{}
		strs(most, pieces, func(s string) { count[checkDecode(t, s)]++ })
		if count[api.OK] < 500 || count[api.ErrSyntax] < 500 {
			t.Errorf("%q: results %v", pieces, count)
		}
	}
}

// P9.4 and P9.5: all short tables of bytes and pieces of fields, also behind
// headers and records that can be read.
func TestSplitAll(t *testing.T) {
	count := map[api.Errno]int{}
	for most, pieces := range map[int][]string{
		5: {"text", "\"", ",", "\n", "a", "{", "{n}", "\xff"},
		6: {"text", "\"", ",", "\n", "\"a\""},
		7: {"text", "\"\"", ",", "\n"},
	} {
		strs(most, pieces, func(s string) { count[checkSplit(t, s)]++ })
	}
	for _, e := range []api.Errno{api.OK, api.ErrSyntax, api.ErrMissing, api.ErrDuplicate} {
		if count[e] < 50 {
			t.Errorf("results %v", count)
		}
	}
	for _, before := range []string{"text", "text\n", "text,x\n", "x,text\n", "x,text\n1,\"a\"\n", "x,text,\n", "x,\"text\",text\n,\"b\",\"c\"\n", "text\n\"a", "x,text\n1,"} {
		count := map[api.Errno]int{}
		for most, pieces := range map[int][]string{
			3: {"\"", ",", "\n", "a", " ", "\r", "{", "}", "{{", "{n}", "{N}", "\"\"", "\"a\"", "\x00", "\xff", "text"},
			5: {"\"", ",", "\n", "a", "{", "{n}"},
			6: {"\"a\"", ",", "\n", "\"{\"", "1"},
			8: {"\"", ",", "\n"},
		} {
			strs(most, pieces, func(s string) { count[checkSplit(t, before+s)]++ })
		}
		if count[api.OK] < 20 || count[api.ErrSyntax] < 500 {
			t.Errorf("%q: results %v", before, count)
		}
	}
}

// seeds are tables and raw contents from which others differ in one place.
var seeds = []string{
	`a""b{{c{n}`, "{name-1}{{n}}\"\"{" + longName + "}", "id,text\n7,\"a\"", "text\n\"a\"\n\"b\"\n", "\"text\",text,\n\"a\"\"\n,\",\"\"\"{{\",1\n,\"{n}\",\"{\"\n", "a,b,text\n1,,\"x,\ny\"\n\"\",2,\"\"", "text,text\n\"a\",\"b\"\n", "text,note\n\"a\",\"{x\"\n\"{y}\",\n", ",text\n,\"1\"\n,\"2\"\n,\"3\"\n,\"4\"\n,\"5\"\n,\"6\"\n,\"7\"\n,\"8\"\n,\"9\"\n,\"10\"\n,\"11\"\n",
}

// P9.1 to P9.5: all strings that differ in one byte from a seed, or that are cut
// off, or in which a byte is left out or added.
func TestEveryEdit(t *testing.T) {
	decoded, divided := map[api.Errno]int{}, map[api.Errno]int{}
	check := func(s string) {
		decoded[checkDecode(t, s)]++
		divided[checkSplit(t, s)]++
	}
	for _, s := range seeds {
		for i := range len(s) + 1 {
			left, right := s[:i], s[i:]
			check(left)
			for b := range 256 {
				check(left + string([]byte{byte(b)}) + right)
				if i < len(s) {
					check(left + string([]byte{byte(b)}) + right[1:])
				}
			}
			if i < len(s) {
				check(left + right[1:])
			}
		}
	}
	for _, e := range []api.Errno{api.OK, api.ErrSyntax, api.ErrMissing, api.ErrDuplicate} {
		if e <= api.ErrSyntax && decoded[e] < 1000 || divided[e] < 1000 {
			t.Errorf("results %v and %v", decoded, divided)
		}
	}
}

// P9.1 and P9.4: all elements at the limits of a fragment, and behind the last that
// fits, alone and in a table.
func TestEveryElementAtTheLimits(t *testing.T) {
	starts := []string{
		strings.Repeat("a", api.MaxLength-2), strings.Repeat(`""`, api.MaxLength-2), strings.Repeat("{{", api.MaxLength-2), strings.Repeat("{n}", api.MaxItems-2), strings.Repeat("{n}a", api.MaxItems/2-1), strings.Repeat("{{{n}", api.MaxItems/2-1),
	}
	elements := []string{"", "a", `""`, "{{", "{n}", `"`, "{", "{N}"}
	decoded := map[api.Errno]int{}
	for _, start := range starts {
		for _, x := range elements {
			for _, y := range elements {
				for _, z := range []string{"", "a", "{n}", "{{", `"`} {
					raw := start + x + y + z
					decoded[checkDecode(t, raw)]++
					checkSplit(t, "a,text\n1,\""+raw+"\"")
				}
			}
		}
	}
	for _, e := range []api.Errno{api.OK, api.ErrSyntax, api.ErrLimit} {
		if decoded[e] < 50 {
			t.Errorf("results %v", decoded)
		}
	}
}

// fragments returns the lists of at most n of the items.
func fragments(n int, items []api.Item) [][]api.Item {
	all := [][]api.Item{nil}
	for from := 0; n > 0; n-- {
		to := len(all)
		for _, f := range all[from:to] {
			for _, x := range items {
				all = append(all, append(slices.Clone(f), x))
			}
		}
		from = to
	}
	return all
}

// slice is the encoding of what f has from one position up to another.
func slice(t *testing.T, f []api.Item, from, to int) string {
	t.Helper()
	part, ok := item.Slice(f, from, to)
	s, e := sheet.Encode(part)
	if !ok || e != api.OK {
		t.Fatalf("Encode of %d to %d of %v: %d", from, to, f, e)
	}
	return s
}

// P9.2 and P9.5: all fragments of up to four items, valid or not; what is decoded
// of an encoding, and of the encodings of neighbouring slices.
func TestEncodeAll(t *testing.T) {
	items := list(
		text("a,"), text(`"`), text("{"), text(`"{n}`), text("\n\x00"), text(""), slot("n"), slot("n-1"), slot("N"), tag(api.Text, 1, "a"), tag(api.Slot, 1, "n"),
		tag(api.Open, 1, "b"), tag(api.Open, 2, "b x"), tag(api.Close, 1, "b"), tag(api.Close, 3, "i"), tag(api.Empty, 4, "br"), tag(api.Open, 0, "b"), tag(9, 1, "b"),
	)
	count := map[api.Errno]int{}
	for _, f := range fragments(4, items) {
		want, wantE := encoded(f)
		s, e := sheet.Encode(f)
		if s != want || e != wantE {
			t.Fatalf("Encode(%v) = %q, %d, not %q, %d", f, s, e, want, wantE)
		}
		count[e]++
		if e == api.OK {
			pass(t, s, f)
			checkDecode(t, s)
			checkSlices(t, f)
		}
	}
	if count[api.OK] < 500 || count[api.ErrTag] < 5000 || count[api.ErrArgument] < 5000 {
		t.Errorf("results %v", count)
	}
}

// checkSlices states P9.5 for a valid fragment without tags, cut into up to three
// slices; it also passes through a table.
func checkSlices(t *testing.T, f []api.Item) {
	t.Helper()
	n := item.Length(f)
	for i := range n + 1 {
		for j := i; j <= n; j++ {
			s := slice(t, f, 0, i) + slice(t, f, i, j) + slice(t, f, j, n)
			if got, at, e := sheet.Decode(s); !slices.Equal(got, f) || at != 0 || e != api.OK {
				t.Fatalf("%v, cut at %d and %d, is %q: %v, %d, %d", f, i, j, s, got, at, e)
			}
			split(t, "text\n\""+s+"\"\n", skeleton("text\n\""), unit("1", s), skeleton("\"\n"))
		}
	}
}

// mixtures calls use with raw in which each piece between two of its cuts, chosen
// in every way, is left as it is or encoded again.
func mixtures(t *testing.T, raw string, f []api.Item, cuts []int, use func(s string)) {
	t.Helper()
	n := len(cuts) - 1
	var extend func(s string, from int)
	extend = func(s string, from int) {
		if from == n {
			use(s)
		}
		for to := from + 1; to <= n; to++ {
			extend(s+raw[cuts[from]:cuts[to]], to)
			extend(s+slice(t, f, from, to), to)
		}
	}
	extend("", 0)
}

// P9.5: all short raw contents, cut at all positions, in all mixtures of raw
// pieces and encodings.
func TestMixtures(t *testing.T) {
	raws, mixed := 0, 0
	check := func(raw string) {
		f, at, e := sheet.Decode(raw)
		cuts, e2 := sheet.Cuts(raw)
		if e != e2 {
			t.Fatalf("Decode(%q) = %d, %d; Cuts: %d", raw, at, e, e2)
		}
		if e != api.OK {
			return
		}
		raws++
		mixtures(t, raw, f, cuts, func(s string) {
			mixed++
			if got, at, e := sheet.Decode(s); !slices.Equal(got, f) || at != 0 || e != api.OK {
				t.Fatalf("%q mixed with its encoding is %q: %v, %d, %d, not %v", raw, s, got, at, e, f)
			}
		})
	}
	strs(4, []string{"a", "\n", ",", `""`, "{{", "{", "n", "}", "{n}", "\xff"}, check)
	strs(5, []string{`""`, "{{", "{n}", "n}"}, check)
	if raws < 5000 || mixed < 100000 {
		t.Errorf("%d mixtures of %d raw contents", mixed, raws)
	}
}

// P9.5: long raw contents, cut at every position, in both mixtures of two pieces.
func TestMixturesAtTheLimits(t *testing.T) {
	for _, raw := range []string{
		strings.Repeat(`""`, api.MaxLength), strings.Repeat("{{", api.MaxLength), strings.Repeat("{{{n}", api.MaxItems/2), strings.Repeat("{n}", api.MaxItems), strings.Repeat(`,""`, api.MaxLength/2), strings.Repeat("a", api.MaxLength),
	} {
		f := decoded(t, raw)
		cuts, _ := sheet.Cuts(raw)
		n := len(cuts) - 1
		for i, cut := range cuts {
			for _, s := range []string{raw[:cut] + slice(t, f, i, n), slice(t, f, 0, i) + raw[cut:], slice(t, f, 0, i) + slice(t, f, i, n)} {
				if got, at, e := sheet.Decode(s); !slices.Equal(got, f) || at != 0 || e != api.OK {
					t.Fatalf("%.40q, cut at %d, is %.40q: %d, %d", raw, i, s, at, e)
				}
			}
		}
	}
}
