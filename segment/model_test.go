package segment_test

import (
	"regexp"
	"slices"
	"strings"
	"testing"

	"bitext/api"
	"bitext/class"
	"bitext/item"
	"bitext/pattern"
	"bitext/segment"
)

// The tests of this file set the package against plain statements of the
// promises, on all small inputs of some parts.

// all returns the lists of at most n of the given parts.
func all[T any](n int, parts []T) [][]T {
	lists := [][]T{nil}
	for from := 0; n > 0; n-- {
		to := len(lists)
		for _, l := range lists[from:to] {
			for _, x := range parts {
				lists = append(lists, append(slices.Clone(l), x))
			}
		}
		from = to
	}
	return lists
}

var (
	lineForm = regexp.MustCompile(`^ *(?:(?:table|(break|keep)) +([^ ]+)(?: +([^ ]+))?)? *$`)
	noteForm = regexp.MustCompile(`^ *#`)
	nameForm = regexp.MustCompile(`^[a-z][a-z0-9-]{0,23}$`)
)

// patternOf is the pattern of a word of a rule.
func patternOf(word string) ([]api.Atom, api.Errno) {
	if word == "-" {
		word = ""
	}
	p, _, e := pattern.Parse(word)
	return p, e
}

// parse states P6.1 with the lines as regular expressions.
func parse(file string) ([]api.Table, int, api.Errno) {
	var l []api.Table
	for i, s := range strings.Split(file, "\n") {
		m := lineForm.FindStringSubmatch(s)
		switch {
		case noteForm.MatchString(s):
		case m == nil, m[1] != "" && m[3] == "":
			return nil, i + 1, api.ErrSyntax
		case m[2] == "":
		case m[1] == "":
			if !nameForm.MatchString(m[2]) || m[3] != "" && !nameForm.MatchString(m[3]) {
				return nil, i + 1, api.ErrName
			}
			if slices.ContainsFunc(l, func(x api.Table) bool { return x.Name == m[2] }) {
				return nil, i + 1, api.ErrDuplicate
			}
			l = append(l, table(m[2], m[3]))
		default:
			before, e1 := patternOf(m[2])
			after, e2 := patternOf(m[3])
			for _, x := range []struct {
				holds bool
				e     api.Errno
			}{{len(l) == 0, api.ErrState}, {e1 != api.OK, e1}, {e2 != api.OK, e2}} {
				if x.holds {
					return nil, i + 1, x.e
				}
			}
			last := &l[len(l)-1]
			last.Rules = append(last.Rules, api.Rule{Break: m[1] == "break", Before: before, After: after})
		}
	}
	return l, 0, api.OK
}

// agree checks Parse against parse.
func agree(t *testing.T, file string) {
	t.Helper()
	want, line, e := parse(file)
	if got, n, err := segment.Parse(file); !sameTables(got, want) || n != line || err != e {
		t.Errorf("Parse(%q) = %v, %d, %d, not %v, %d, %d", file, got, n, err, want, line, e)
	}
}

// P6.1: all short strings of pieces of lines.
func TestParseAllPieces(t *testing.T) {
	for _, l := range all(6, []string{"table", "keep", " ", "\n", "a", "-", "#"}) {
		agree(t, strings.Join(l, ""))
	}
	for _, l := range all(4, []string{"table", "break", "keep", " ", "  ", "\n", "\t", "\r", "a", "A", "(", "[a", "\\", "*", "-", "#", "\x00", "\xff"}) {
		s := strings.Join(l, "")
		agree(t, s)
		agree(t, "table b\nkeep "+s)
		agree(t, "table b\nbreak a "+s+" -")
	}
}

// P6.1: all short files of some lines, with and without a last byte 10.
func TestParseAllLines(t *testing.T) {
	long := strings.Repeat("a", api.MaxAtoms+1)
	for _, l := range all(4, []string{"", "# c", "table a", " table b  a ", "table a A", "table", "break . \\s", " keep - - ", "keep a", "break ( a", "keep a " + long}) {
		agree(t, strings.Join(l, "\n"))
		agree(t, strings.Join(l, "\n")+"\n")
	}
}

// P6.3: the ways through all sets of parents of five tables, one of which may
// be no table.
func TestResolveAllParents(t *testing.T) {
	names := []string{"a", "b", "c", "d", "e"}
	rules := cascade(breaks("a", ""), keeps("b", ""), breaks("c", ""), keeps("d", ""), breaks("e", ""))
	for _, parents := range all(len(names), append([]string{"", "none"}, names...)) {
		if len(parents) < len(names) {
			continue
		}
		var l []api.Table
		for i := range names {
			l = append(l, table(names[i], parents[i], rules[i]))
		}
		for _, name := range append([]string{"none"}, names...) {
			var want []api.Rule
			e, next := api.OK, name
			for steps := 1; next != "" && e == api.OK; steps++ {
				i := slices.Index(names, next)
				switch {
				case i < 0:
					e = api.ErrName
				case steps > 4:
					e = api.ErrLimit
				default:
					want, next = append(want, rules[i]), parents[i]
				}
			}
			if e != api.OK {
				want = nil
			}
			if got, err := segment.Resolve(l, name); !sameRules(got, want) || err != e {
				t.Fatalf("parents %q: Resolve of %q = %v, %d, not %v, %d", parents, name, got, err, want, e)
			}
		}
	}
}

// decide states P6.4 with all suffixes and prefixes.
func decide(rules []api.Rule, s string, at int) bool {
	if at <= 0 || at >= len(s) {
		return false
	}
	i := slices.IndexFunc(rules, func(r api.Rule) bool {
		before, after := false, false
		for n := range at + 1 {
			before = before || pattern.Match(r.Before, s[n:at])
		}
		for n := at; n <= len(s); n++ {
			after = after || pattern.Match(r.After, s[at:n])
		}
		return before && after
	})
	return i >= 0 && rules[i].Break
}

// P6.4: all lists of up to three rules on all short strings.
func TestDecideAll(t *testing.T) {
	var strs []string
	for _, l := range all(4, []string{"a", "b", " "}) {
		strs = append(strs, strings.Join(l, ""))
	}
	for _, rules := range all(3, cascade(keeps("a", "b"), keeps("", "a+b"), keeps("ab*", ""), keeps("", "\\s"), breaks("a", "\\s"), breaks("", "b"), breaks("b.", ""), breaks("", ""))) {
		for _, s := range strs {
			var want []int
			for at := -1; at <= len(s)+1; at++ {
				decides := decide(rules, s, at)
				if decides {
					want = append(want, at)
				}
				if segment.Decide(rules, s, at) != decides {
					t.Fatalf("Decide(%v, %q, %d) is not %v", rules, s, at, decides)
				}
			}
			if got := segment.Breaks(rules, s); !slices.Equal(got, want) {
				t.Fatalf("Breaks(%v, %q) = %v, not %v", rules, s, got, want)
			}
		}
	}
}

// cut is what f has from one position up to another.
func cut(f []api.Item, from, to int) []api.Item {
	part, ok := item.Slice(f, from, to)
	if !ok {
		panic("no such positions")
	}
	return part
}

// place states P6.5 with the slices of f.
func place(f []api.Item, offset int) int {
	for p := range item.Length(f) + 1 {
		if len(item.Plain(cut(f, 0, p))) == offset {
			for p < item.Length(f) && cut(f, p, p+1)[0].Kind == api.Close {
				p++
			}
			return p
		}
	}
	return -1
}

// isBlank reports whether a fragment has no bytes but spaces.
func isBlank(f []api.Item) bool {
	from, to := class.Trim(item.Plain(f))
	return from == to
}

// isSpace reports whether the position at of f is a byte of class Space.
func isSpace(f []api.Item, at int) bool {
	x := cut(f, at, at+1)[0]
	return x.Kind == api.Text && strings.Contains("\t\n\r ", x.Text)
}

// ranges states P6.6 with place and Breaks.
func ranges(rules []api.Rule, f []api.Item) []api.Range {
	ends := []int{0}
	for _, offset := range segment.Breaks(rules, item.Plain(f)) {
		ends = append(ends, place(f, offset))
	}
	ends = append(ends, item.Length(f))
	var l []api.Range
	for i := range len(ends) - 1 {
		from, to := ends[i], ends[i+1]
		if isBlank(cut(f, from, to)) {
			continue
		}
		for isSpace(f, from) {
			from++
		}
		for isSpace(f, to-1) {
			to--
		}
		l = append(l, api.Range{From: from, To: to})
	}
	return l
}

// parts are the items of the fragments of the tests below.
var parts = list(text("a"), text("."), text(" "), text(". b "), text(""), open(1, "b"), shut(1, "b"), shut(2, "i"), empty(2, "br"), slot("n"), other(9))

// P6.5: all short fragments.
func TestPlaceAll(t *testing.T) {
	for _, f := range all(4, parts) {
		for offset := -1; offset <= len(item.Plain(f))+1; offset++ {
			if got, want := segment.Place(f, offset), place(f, offset); got != want {
				t.Fatalf("Place(%v, %d) = %d, not %d", f, offset, got, want)
			}
		}
	}
}

// P6.6: all short fragments, with some lists of rules; the segments are in
// order, and there are no bytes but spaces outside of them.
func TestRangesAll(t *testing.T) {
	cascades := [][]api.Rule{nil, cascade(breaks("[.]", "\\s")), cascade(keeps("a\\.", ""), breaks("\\.", "")), cascade(breaks("", ""))}
	for _, f := range all(4, parts) {
		for i, rules := range cascades {
			got := segment.Ranges(rules, f)
			if want := ranges(rules, f); !slices.Equal(got, want) {
				t.Fatalf("Ranges(%d, %v) = %v, not %v", i, f, got, want)
			}
			end := 0
			for _, r := range append(got, to(item.Length(f), item.Length(f))) {
				if r.From < end || r.To < r.From || !isBlank(cut(f, end, r.From)) {
					t.Fatalf("Ranges(%d, %v) = %v leaves out text", i, f, got)
				}
				end = r.To
			}
		}
	}
}
