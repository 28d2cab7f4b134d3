package resource_test

import (
	"regexp"
	"slices"
	"sort"
	"strings"
	"testing"

	"bitext/api"
	"bitext/item"
	"bitext/resource"
)

// The tests of this file set the package against a plain statement of the
// promises: a regular expression for each form of an element and of a line, and
// a raw value as a list of all its elements, continuations among them.

var (
	escapeForm = regexp.MustCompile(`^\\[ntsr\\{]`)
	jointForm  = regexp.MustCompile(`^\\\n[ \t]*`)
	slotForm   = regexp.MustCompile(`^\{([a-z][a-z0-9-]{0,23})\}`)
	byteForm   = regexp.MustCompile(`^[^\n\\{]`)
	plainForm  = regexp.MustCompile(`^[ \t]*(#[^\n]*)?(\n|$)`)
	keyForm    = regexp.MustCompile(`^([a-z0-9._-]{1,64})=`)
	rawForm    = regexp.MustCompile(`^(?s:(\\.|[^\\\n])*\\?)`)
)

// piece is an element of a raw value: its item, if it is no continuation, and
// where it begins and ends.
type piece struct {
	x        api.Item
	from, to int
}

// pieceAt is the element at an offset, if there is one.
func pieceAt(raw string, at int) (piece, bool) {
	rest := raw[at:]
	if s := jointForm.FindString(rest); s != "" {
		return piece{from: at, to: at + len(s)}, true
	}
	if s := escapeForm.FindString(rest); s != "" {
		return piece{text(escapes[s]), at, at + 2}, true
	}
	if m := slotForm.FindStringSubmatch(rest); m != nil {
		return piece{slot(m[1]), at, at + len(m[0])}, true
	}
	if byteForm.MatchString(rest) {
		return piece{text(rest[:1]), at, at + 1}, true
	}
	return piece{}, false
}

// fragmentOf is the fragment of a list of elements.
func fragmentOf(pieces []piece) []api.Item {
	var f []api.Item
	for _, p := range pieces {
		switch last := len(f) - 1; {
		case p.x.Kind == api.Text && last >= 0 && f[last].Kind == api.Text:
			f[last].Text += p.x.Text
		case p.x.Kind != 0:
			f = append(f, p.x)
		}
	}
	return f
}

// cutsOf are the offsets of P8.3 of a list of elements.
func cutsOf(pieces []piece) []int {
	var cuts []int
	end := 0
	for i, p := range pieces {
		if p.x.Kind == 0 {
			continue
		}
		first := i
		for first > 0 && pieces[first-1].x.Kind == 0 {
			first--
		}
		cuts = append(cuts, pieces[first].from)
		end = p.to
	}
	return append(cuts, end)
}

// tooLong reports whether the fragment of a list of elements is beyond a limit.
func tooLong(pieces []piece) bool {
	f := fragmentOf(pieces)
	return len(f) > 512 || item.Length(f) > 1024
}

// decode states P8.1 and P8.3.
func decode(raw string) (f []api.Item, cuts []int, at int, e api.Errno) {
	var pieces []piece
	for at < len(raw) && e == api.OK {
		if p, ok := pieceAt(raw, at); ok {
			pieces, at = append(pieces, p), p.to
		} else {
			e = api.ErrSyntax
		}
	}
	// What is too long stays so with every further element.
	if tooLong(pieces) {
		n := sort.Search(len(pieces), func(n int) bool { return tooLong(pieces[:n]) })
		return nil, nil, pieces[n-1].from, api.ErrLimit
	}
	if e != api.OK {
		return nil, nil, at, e
	}
	return fragmentOf(pieces), cutsOf(pieces), 0, api.OK
}

// encoded states P8.2.
func encoded(f []api.Item) (string, api.Errno) {
	if e := item.Validate(f); e != api.OK {
		return "", e
	}
	s := ""
	for _, x := range f {
		switch x.Kind {
		case api.Text:
			s += strings.NewReplacer("\n", `\n`, "\t", `\t`, "\r", `\r`, `\`, `\\`, "{", `\{`).Replace(x.Text)
		case api.Slot:
			s += "{" + x.Text + "}"
		default:
			return "", api.ErrTag
		}
	}
	return s, api.OK
}

// parts states P8.4.
func parts(data string) (l []api.Part, at int, e api.Errno) {
	if len(data) > 65536 {
		return nil, 0, api.ErrLimit
	}
	before := ""
	for at < len(data) {
		rest := data[at:]
		if m := plainForm.FindString(rest); m != "" {
			before, at = before+m, at+len(m)
			continue
		}
		m := keyForm.FindStringSubmatch(rest)
		if m == nil {
			return nil, at, api.ErrSyntax
		}
		if slices.ContainsFunc(l, func(p api.Part) bool { return p.Unit && p.Key == m[1] }) {
			return nil, at, api.ErrDuplicate
		}
		raw := rawForm.FindString(rest[len(m[0]):])
		if _, _, n, e := decode(raw); e != api.OK {
			return nil, at + len(m[0]) + n, e
		}
		l = append(l, skeleton(before+m[0]), unit(m[1], raw))
		before, at = "", at+len(m[0])+len(raw)
		if at < len(data) {
			before, at = "\n", at+1
		}
	}
	return append(l, skeleton(before)), 0, api.OK
}

// checkDecode sets Decode and Cuts against decode, and Encode against what was
// decoded.
func checkDecode(t *testing.T, raw string) api.Errno {
	t.Helper()
	wantF, wantCuts, wantAt, wantE := decode(raw)
	if f, at, e := resource.Decode(raw); !slices.Equal(f, wantF) || at != wantAt || e != wantE {
		t.Fatalf("Decode(%.200q) = %v, %d, %d, not %v, %d, %d", raw, f, at, e, wantF, wantAt, wantE)
	}
	if cuts, e := resource.Cuts(raw); !slices.Equal(cuts, wantCuts) || e != wantE {
		t.Fatalf("Cuts(%.200q) = %v, %d, not %v, %d", raw, cuts, e, wantCuts, wantE)
	}
	if wantE != api.OK {
		return wantE
	}
	if e := item.Validate(wantF); e != api.OK {
		t.Fatalf("Decode(%.200q) = %v: not valid, %d", raw, wantF, e)
	}
	again, e := resource.Encode(wantF)
	if f, at, e2 := resource.Decode(again); e != api.OK || !slices.Equal(f, wantF) || at != 0 || e2 != api.OK {
		t.Fatalf("Decode(Encode(Decode(%.200q))) = %v, %d, %d, %d", raw, f, at, e, e2)
	}
	return api.OK
}

// checkSplit sets Split against parts; the parts concatenate to data.
func checkSplit(t *testing.T, data string) api.Errno {
	t.Helper()
	want, wantAt, wantE := parts(data)
	got, at, e := resource.Split(data)
	if !slices.Equal(got, want) || at != wantAt || e != wantE {
		t.Fatalf("Split(%q) = %+v, %d, %d, not %+v, %d, %d", data, got, at, e, want, wantAt, wantE)
	}
	if e != api.OK {
		return e
	}
	if bytesOf(got) != data || len(got)%2 == 0 {
		t.Fatalf("Split(%q) = %+v", data, got)
	}
	for i, p := range got {
		if p.Unit != (i%2 == 1) || p.Unit && checkDecode(t, p.Raw) != api.OK {
			t.Fatalf("Split(%q) = %+v: part %d", data, got, i)
		}
	}
	return api.OK
}

// strs calls use with all strings of at most n of the pieces.
func strs(n int, pieces []string, use func(s string)) {
	var extend func(s string, n int)
	extend = func(s string, n int) {
		use(s)
		for _, piece := range pieces {
			if n > 0 {
				extend(s+piece, n-1)
			}
		}
	}
	extend("", n)
}

// P8.1, P8.2 and P8.3: all short raw values of bytes and pieces of elements.
func TestDecodeAll(t *testing.T) {
	for most, pieces := range map[int][]string{
		3: {"a", " ", "\t", "\n", "\r", "\\", "{", "}", "n", "s", "N", "-", "0", "#", "=", "\x00", "\x80", "\xff", "\\\n", "{n", "{n}", "\\\\", "é"},
		4: {`\n`, `\t`, `\s`, `\r`, `\\`, `\{`, "\\\n", " ", "a", "{n}"},
		6: {"\\", "\n", " ", "n", "{n}"},
		7: {"\\\n", " ", "a", "\t"},
		9: {"\\", "\n", "t"},
	} {
		count := map[api.Errno]int{}
		strs(most, pieces, func(s string) { count[checkDecode(t, s)]++ })
		if count[api.OK] < 50 || count[api.ErrSyntax] < 50 && most != 4 && most != 7 {
			t.Errorf("%q: results %v", pieces, count)
		}
	}
}

// P8.4 and P8.5: all short files of bytes and pieces of lines.
func TestSplitAll(t *testing.T) {
	for most, pieces := range map[int][]string{
		4: {"a", "b", "=", "\n", " ", "\t", "\\", "#", "{n}", "{", "\r", "A", "\xff"},
		5: {"a=", "b=", "\n", "\\", " ", "#", "{n}", "x"},
		6: {"a=", "a\n", "b=x\n", "\n", "\\\n", " "},
		7: {"a=", "b=\\q", "\n", "\\"},
		8: {"\\", "\n", "k="},
	} {
		count := map[api.Errno]int{}
		strs(most, pieces, func(s string) { count[checkSplit(t, s)]++ })
		if count[api.OK] < 50 || count[api.ErrSyntax] < 50 || count[api.ErrDuplicate] < 3 && most > 4 {
			t.Errorf("%q: results %v", pieces, count)
		}
	}
}

// seeds are files and raw values from which others differ in one place.
var seeds = []string{
	`x\ny{n}`, "a\\\n  b\\s\\\n\t{name-1}\\\\}\\{", "a=x\n", "# c\n\n  # d\nk.1_-=v\\\n  w\n \t\nb=\n", "a=\\\\\nb=\\\\\\\n c\nc==#{n}", "a=\naa=\naaa=\n#a=",
	strings.Repeat("k", 64) + "={" + longName + "}\n" + strings.Repeat("k", 63) + "=", "a=\\n\\t\\s\\r\\\\\\{\nb=\\\n\\\n",
}

// P8.1 to P8.5: all strings that differ in one byte from a seed, or that are cut
// off, or in which a byte is left out or added.
func TestEveryEdit(t *testing.T) {
	decoded, divided := map[api.Errno]int{}, map[api.Errno]int{}
	check := func(s string) {
		decoded[checkDecode(t, s)]++
		divided[checkSplit(t, s)]++
	}
	for _, s := range seeds {
		for i := range len(s) + 1 {
			left, right := s[:i], s[i:]
			check(left)
			for b := range 256 {
				check(left + string([]byte{byte(b)}) + right)
				if i < len(s) {
					check(left + string([]byte{byte(b)}) + right[1:])
				}
			}
			if i < len(s) {
				check(left + right[1:])
			}
		}
	}
	if decoded[api.OK] < 1000 || decoded[api.ErrSyntax] < 1000 || divided[api.OK] < 1000 || divided[api.ErrSyntax] < 1000 || divided[api.ErrDuplicate] < 5 {
		t.Errorf("results %v and %v", decoded, divided)
	}
}

// P8.1: all elements at the limits of a fragment, and behind the last that fits.
func TestEveryElementAtTheLimits(t *testing.T) {
	starts := []string{
		strings.Repeat("a", api.MaxLength-2), strings.Repeat(`\n`, api.MaxLength-2), strings.Repeat("{n}", api.MaxItems-2), strings.Repeat("{n}a", api.MaxItems/2-1), strings.Repeat("a{n}", api.MaxItems/2-1), strings.Repeat("{n}", api.MaxItems-2) + "\\\n ",
	}
	elements := []string{"", "a", `\s`, "{n}", "\\\n\t", "\n", `\q`, "{"}
	decoded := map[api.Errno]int{}
	for _, start := range starts {
		for _, x := range elements {
			for _, y := range elements {
				for _, z := range []string{"", "a", "{n}", "\\\n", "\\"} {
					decoded[checkDecode(t, start+x+y+z)]++
				}
			}
		}
	}
	for _, e := range []api.Errno{api.OK, api.ErrSyntax, api.ErrLimit} {
		if decoded[e] < 50 {
			t.Errorf("results %v", decoded)
		}
	}
}

// fragments returns the lists of at most n of the items.
func fragments(n int, items []api.Item) [][]api.Item {
	all := [][]api.Item{nil}
	for from := 0; n > 0; n-- {
		to := len(all)
		for _, f := range all[from:to] {
			for _, x := range items {
				all = append(all, append(slices.Clone(f), x))
			}
		}
		from = to
	}
	return all
}

// slice is the encoding of what f has from one position up to another.
func slice(t *testing.T, f []api.Item, from, to int) string {
	t.Helper()
	part, ok := item.Slice(f, from, to)
	s, e := resource.Encode(part)
	if !ok || e != api.OK {
		t.Fatalf("Encode of %d to %d of %v: %d", from, to, f, e)
	}
	return s
}

// P8.2 and P8.5: all fragments of up to four items, valid or not; what is decoded
// of an encoding, and of the encodings of neighbouring slices.
func TestEncodeAll(t *testing.T) {
	items := list(
		text("a\n"), text("  "), text(`\{n}`), text("\\\n \t"), text("\r"), text(""), slot("n"), slot("n-1"), slot("N"), tag(api.Text, 1, "a"), tag(api.Slot, 1, "n"),
		tag(api.Open, 1, "b"), tag(api.Open, 2, "b x"), tag(api.Close, 1, "b"), tag(api.Close, 3, "i"), tag(api.Empty, 4, "br"), tag(api.Open, 0, "b"), tag(9, 1, "b"),
	)
	count := map[api.Errno]int{}
	for _, f := range fragments(4, items) {
		want, wantE := encoded(f)
		s, e := resource.Encode(f)
		if s != want || e != wantE {
			t.Fatalf("Encode(%v) = %q, %d, not %q, %d", f, s, e, want, wantE)
		}
		count[e]++
		if e == api.OK {
			checkDecode(t, s)
			checkSlices(t, f)
		}
	}
	if count[api.OK] < 500 || count[api.ErrTag] < 5000 || count[api.ErrArgument] < 5000 {
		t.Errorf("results %v", count)
	}
}

// checkSlices states P8.5 for a valid fragment without tags, cut into up to three
// slices; it also passes through a file.
func checkSlices(t *testing.T, f []api.Item) {
	t.Helper()
	n := item.Length(f)
	for i := range n + 1 {
		for j := i; j <= n; j++ {
			s := slice(t, f, 0, i) + slice(t, f, i, j) + slice(t, f, j, n)
			if got, at, e := resource.Decode(s); !slices.Equal(got, f) || at != 0 || e != api.OK {
				t.Fatalf("%v, cut at %d and %d, is %q: %v, %d, %d", f, i, j, s, got, at, e)
			}
			split(t, "k="+s+"\n", skeleton("k="), unit("k", s), skeleton("\n"))
		}
	}
}

// mixtures calls use with raw in which each piece between two of its cuts, chosen
// in every way, is left as it is or encoded again; the part behind the last cut
// stays.
func mixtures(t *testing.T, raw string, f []api.Item, cuts []int, use func(s string)) {
	t.Helper()
	n := len(cuts) - 1
	var extend func(s string, from int)
	extend = func(s string, from int) {
		if from == n {
			use(s + raw[cuts[n]:])
		}
		for to := from + 1; to <= n; to++ {
			extend(s+raw[cuts[from]:cuts[to]], to)
			extend(s+slice(t, f, from, to), to)
		}
	}
	extend("", 0)
}

// P8.5: all short raw values, cut at all positions, in all mixtures of raw pieces
// and encodings.
func TestMixtures(t *testing.T) {
	raws, mixed, behind := 0, 0, 0
	check := func(raw string) {
		f, at, e := resource.Decode(raw)
		cuts, e2 := resource.Cuts(raw)
		if e != e2 {
			t.Fatalf("Decode(%q) = %d, %d; Cuts: %d", raw, at, e, e2)
		}
		if e != api.OK {
			return
		}
		raws++
		if cuts[len(cuts)-1] < len(raw) {
			behind++
		}
		mixtures(t, raw, f, cuts, func(s string) {
			mixed++
			if got, at, e := resource.Decode(s); !slices.Equal(got, f) || at != 0 || e != api.OK {
				t.Fatalf("%q mixed with its encoding is %q: %v, %d, %d, not %v", raw, s, got, at, e, f)
			}
		})
	}
	strs(4, []string{"a", " ", "\t", `\n`, `\t`, `\s`, `\\`, `\{`, "n", "}", "{n}", "\\\n", "\\\n\t", "\xff"}, check)
	strs(5, []string{`\s`, `\\`, "{n}", "\\\n", " ", "n"}, check)
	strs(6, []string{"\\\n", `\s`, " "}, check)
	if raws < 5000 || mixed < 100000 || behind < 500 {
		t.Errorf("%d mixtures of %d raw values, %d with a part behind the last cut", mixed, raws, behind)
	}
}

// P8.5: long raw values, cut at every position, in both mixtures of two pieces.
func TestMixturesAtTheLimits(t *testing.T) {
	for _, raw := range []string{
		strings.Repeat(`\s`, api.MaxLength), strings.Repeat("\\\n\\s", api.MaxLength) + "\\\n \t", strings.Repeat("{n}\\\n \\s", api.MaxItems/2), strings.Repeat("{n}", api.MaxItems) + "\\\n", strings.Repeat("a\\\n\\\\", api.MaxLength/2),
	} {
		f, _, e := resource.Decode(raw)
		cuts, _ := resource.Cuts(raw)
		if e != api.OK {
			t.Fatalf("Decode(%.40q) = %d", raw, e)
		}
		n := len(cuts) - 1
		behind := raw[cuts[n]:]
		for i, cut := range cuts {
			for _, s := range []string{raw[:cut] + slice(t, f, i, n) + behind, slice(t, f, 0, i) + raw[cut:]} {
				if got, at, e := resource.Decode(s); !slices.Equal(got, f) || at != 0 || e != api.OK {
					t.Fatalf("%.40q, cut at %d, is %.40q: %d, %d", raw, i, s, at, e)
				}
			}
		}
	}
}
