package segment_test

import (
	"fmt"
	"math"
	"slices"
	"strings"
	"testing"

	"bitext/api"
	"bitext/pattern"
	"bitext/segment"
)

func text(s string) api.Item { return api.Item{Kind: api.Text, Text: s} }

func open(n int, s string) api.Item { return api.Item{Kind: api.Open, Text: s, ID: n} }

func shut(n int, s string) api.Item { return api.Item{Kind: api.Close, Text: s, ID: n} }

func empty(n int, s string) api.Item { return api.Item{Kind: api.Empty, Text: s, ID: n} }

func slot(s string) api.Item { return api.Item{Kind: api.Slot, Text: s} }

// other is an item of any kind, mostly one that is not from Text to Slot.
func other(kind int) api.Item { return api.Item{Kind: kind, Text: "b", ID: 1} }

// list is a fragment.
func list(items ...api.Item) []api.Item { return items }

// badKinds are not from Text to Slot.
var badKinds = []int{math.MinInt, -1, 0, api.Slot + 1, api.Word, api.Blank, api.Sign, math.MaxInt}

// atoms is the pattern that is written as s.
func atoms(s string) []api.Atom {
	p, at, e := pattern.Parse(s)
	if at != 0 || e != api.OK {
		panic("no pattern: " + s)
	}
	return p
}

// breaks and keeps are rules with patterns as they are written.
func breaks(before, after string) api.Rule {
	return api.Rule{Break: true, Before: atoms(before), After: atoms(after)}
}

func keeps(before, after string) api.Rule {
	return api.Rule{Before: atoms(before), After: atoms(after)}
}

// cascade is a list of rules.
func cascade(rules ...api.Rule) []api.Rule { return rules }

// table is a table with a parent, or without one.
func table(name, parent string, rules ...api.Rule) api.Table {
	return api.Table{Name: name, Parent: parent, Rules: rules}
}

// tables is a list of tables.
func tables(all ...api.Table) []api.Table { return all }

// numbered returns tables of n different names.
func numbered(n int) []api.Table {
	var all []api.Table
	for i := range n {
		all = append(all, table(fmt.Sprint("t", i), ""))
	}
	return all
}

func sameRules(a, b []api.Rule) bool {
	return slices.EqualFunc(a, b, func(x, y api.Rule) bool {
		return x.Break == y.Break && slices.Equal(x.Before, y.Before) && slices.Equal(x.After, y.After)
	})
}

func sameTables(a, b []api.Table) bool {
	return slices.EqualFunc(a, b, func(x, y api.Table) bool {
		return x.Name == y.Name && x.Parent == y.Parent && sameRules(x.Rules, y.Rules)
	})
}

// pass checks that a rule file describes the tables.
func pass(t *testing.T, file string, want ...api.Table) {
	t.Helper()
	if got, line, e := segment.Parse(file); !sameTables(got, want) || line != 0 || e != api.OK {
		t.Errorf("Parse(%.80q) = %v, %d, %d, not %v", file, got, line, e, want)
	}
}

// fail checks that Parse reports an error in a line, and nothing else.
func fail(t *testing.T, file string, line int, want api.Errno) {
	t.Helper()
	if got, n, e := segment.Parse(file); len(got) != 0 || n != line || e != want {
		t.Errorf("Parse(%.80q) = %v, %d, %d, not %d, %d", file, got, n, e, line, want)
	}
}

// P6.1: ordinary rule files, and lines and words of every form.
func TestParseFiles(t *testing.T) {
	pass(t, "")
	pass(t, "table a", table("a", ""))
	pass(t, "table a\n", table("a", ""))
	pass(t, "\ntable a\n\n", table("a", ""))
	pass(t, "table b a\ntable a", table("b", "a"), table("a", ""))
	pass(t, "table a\nbreak a b\nkeep b a", table("a", "", breaks("a", "b"), keeps("b", "a")))
	pass(t, "table a\nbreak a b\ntable b\nkeep b a\nbreak b b\ntable c\n", table("a", "", breaks("a", "b")), table("b", "", keeps("b", "a"), breaks("b", "b")), table("c", ""))
	pass(t, "table table keep\nbreak break keep\nkeep table table", table("table", "keep", breaks("break", "keep"), keeps("table", "table")))
	pass(t, "# English\ntable en base\nkeep Mr\\. \\s\nkeep \\u\\. \\s+\\u\n\n# all languages\ntable base\nbreak [.!?]+[)\"]* \\s\nbreak : \\s",
		table("en", "base", keeps("Mr\\.", "\\s"), keeps("\\u\\.", "\\s+\\u")), table("base", "", breaks("[.!?]+[)\"]*", "\\s"), breaks(":", "\\s")))
}

// P6.1: lines that are ignored, at every place of a file and with every end.
func TestParseIgnores(t *testing.T) {
	want := table("a", "", breaks("a", "b"))
	for _, s := range []string{"", " ", "   ", "#", "##", "# ", "#x", "#table b", "#table", "  #", "  # break", " #\t", "# \x00\xff\r", "#\ttable A"} {
		pass(t, s)
		pass(t, s+"\n")
		pass(t, s+"\n"+s)
		pass(t, s+"\ntable a\n"+s+"\nbreak a b\n"+s, want)
		pass(t, "table a\n"+s+"\n"+s+"\nbreak a b\n"+s+"\n"+s+"\n", want)
		fail(t, s+"\n"+s+"\nbreak a b\n"+s, 3, api.ErrState)
	}
	pass(t, strings.Repeat("\n", api.MaxDocument))
}

// P6.1: a # that does not begin the first word belongs to a word.
func TestParseNumberSign(t *testing.T) {
	pass(t, "table a\nbreak # ##", table("a", "", breaks("#", "##")))
	fail(t, "table #", 1, api.ErrName)
	fail(t, "table a #", 1, api.ErrName)
	fail(t, "table a b #", 1, api.ErrSyntax)
	fail(t, "table a\nkeep a b # c", 2, api.ErrSyntax)
	fail(t, "table#", 1, api.ErrSyntax)
	fail(t, "\t# c", 1, api.ErrSyntax)
}

// P6.1: spaces at the beginning, at the end and between the words.
func TestParseSpaces(t *testing.T) {
	want := table("a", "b", keeps("c", "d"))
	for _, s := range []string{" ", "  ", "          "} {
		pass(t, s+"table"+s+"a"+s+"b"+s+"\n"+s+"keep"+s+"c"+s+"d"+s, want)
		pass(t, s+"table a b\nkeep c d", want)
		pass(t, "table a b"+s+"\nkeep c d"+s+"\n"+s, want)
		pass(t, "table"+s+"a b\nkeep c"+s+"d", want)
	}
}

// P6.1: no byte but 32 separates words, and none but 10 lines; the other bytes
// of class Space fit into no word.
func TestParseOtherSpaces(t *testing.T) {
	for _, s := range []string{"\t", "\r", "\v", "\f", "\x00", "\x85", "\xa0", "\u00a0", "\u2003"} {
		fail(t, s, 1, api.ErrSyntax)
		fail(t, "\n"+s+"\n", 2, api.ErrSyntax)
		fail(t, " "+s+" ", 1, api.ErrSyntax)
		fail(t, s+"#", 1, api.ErrSyntax)
		fail(t, s+"table a", 1, api.ErrSyntax)
		fail(t, "table"+s+"a", 1, api.ErrSyntax)
		fail(t, "table"+s+" a", 1, api.ErrSyntax)
		fail(t, "table a"+s, 1, api.ErrName)
		fail(t, "table a "+s, 1, api.ErrName)
		fail(t, "table a"+s+"b", 1, api.ErrName)
		fail(t, "table a b "+s, 1, api.ErrSyntax)
		fail(t, "table a\nkeep a"+s+"b", 2, api.ErrSyntax)
	}
	for _, s := range []string{"\t", "\r", "\v", "\f", "\x00"} {
		fail(t, "table a\nkeep a"+s+" b", 2, api.ErrSyntax)
		fail(t, "table a\nkeep a b"+s, 2, api.ErrSyntax)
		fail(t, "table a\nkeep "+s+" b", 2, api.ErrSyntax)
		fail(t, "table a\nkeep a "+s, 2, api.ErrSyntax)
	}
	fail(t, "table a\r\ntable b\r\n", 1, api.ErrName)
	pass(t, "table a\nkeep \xe2\x80\x83 \x85", table("a", "", keeps("\xe2\x80\x83", "\x85")))
}

// P6.1: the word - is the empty pattern, and no other word is.
func TestParseEmptyPattern(t *testing.T) {
	pass(t, "table a\nbreak - b\nbreak a -\nkeep - -", table("a", "", breaks("", "b"), breaks("a", ""), keeps("", "")))
	pass(t, "table a\nbreak \\- -\nbreak - \\-\nkeep \\- \\-", table("a", "", breaks("\\-", ""), breaks("", "\\-"), keeps("\\-", "\\-")))
	pass(t, "table a\nbreak -- -a\nbreak -* a-", table("a", "", breaks("\\-\\-", "\\-a"), breaks("\\-*", "a\\-")))
	if got, _, _ := segment.Parse("table a\nkeep - \\-"); len(got) != 1 || len(got[0].Rules[0].Before) != 0 || len(got[0].Rules[0].After) != 1 || !pattern.Contains(got[0].Rules[0].After[0], '-') {
		t.Errorf("- and \\- are %v", got)
	}
	fail(t, "table -", 1, api.ErrName)
	fail(t, "table a -", 1, api.ErrName)
	fail(t, "- a b", 1, api.ErrSyntax)
}

// P6.1: first words, and numbers of words.
func TestParseSyntax(t *testing.T) {
	for _, s := range []string{"tables", "Table", "tabl", "TABLE", "breaks", "Break", "keeps", "kee", "rule", "-", "\\#", "\"table\"", "\x00", "\xff"} {
		for _, words := range []string{"", " a", " a b", " a b c"} {
			fail(t, s+words, 1, api.ErrSyntax)
			fail(t, "table a\n"+s+words, 2, api.ErrSyntax)
		}
	}
	for _, s := range []string{"table", "table ", "table a b c", "table a b c d", "break", "break a", "break a ", "break a b c", "break - - -", "keep", "keep a", "keep a b c", "keep a b c d"} {
		fail(t, s, 1, api.ErrSyntax)
		fail(t, "table a\n\n"+s+"\n", 3, api.ErrSyntax)
	}
}

// P6.1: names of tables and of their parents, which need not be tables.
func TestParseNames(t *testing.T) {
	longest := strings.Repeat("n", api.MaxName)
	for _, s := range []string{"a", "z", "h-1", "a0", "a-", longest} {
		pass(t, "table "+s, table(s, ""))
		pass(t, "table x "+s, table("x", s))
		pass(t, "table "+s+" "+s, table(s, s))
	}
	for _, s := range []string{"A", "aB", "1", "-", "-a", "a_", "a.", "é", "aé", longest + "n"} {
		fail(t, "table "+s, 1, api.ErrName)
		fail(t, "table x "+s, 1, api.ErrName)
		fail(t, "table "+s+" x", 1, api.ErrName)
	}
	pass(t, "table a none", table("a", "none"))
	pass(t, "table a a", table("a", "a"))
	pass(t, "table a b\ntable b a", table("a", "b"), table("b", "a"))
	pass(t, "table a b\ntable b c\ntable c a\nkeep a b", table("a", "b"), table("b", "c"), table("c", "a", keeps("a", "b")))
}

// P6.1: names that occur twice.
func TestParseDuplicate(t *testing.T) {
	fail(t, "table a\ntable a", 2, api.ErrDuplicate)
	fail(t, "table a b\ntable b\nkeep a b\ntable a", 4, api.ErrDuplicate)
	fail(t, "table a\ntable b\n\ntable b x\n", 4, api.ErrDuplicate)
	pass(t, "table a\ntable aa\ntable b a", table("a", ""), table("aa", ""), table("b", "a"))
}

// P6.1: rules without a table.
func TestParseState(t *testing.T) {
	fail(t, "break a b", 1, api.ErrState)
	fail(t, "keep a b", 1, api.ErrState)
	fail(t, "# table a\n keep - -\ntable a", 2, api.ErrState)
}

// P6.1: the errors of patterns, those of BEFORE first.
func TestParsePatternErrors(t *testing.T) {
	full := strings.Repeat("a", api.MaxAtoms)
	pass(t, "table a\nbreak "+full+" "+full+"*", table("a", "", breaks(full, full+"*")))
	for _, first := range []string{"break", "keep"} {
		for bad, want := range map[string]api.Errno{"(": api.ErrSyntax, "a**": api.ErrSyntax, "[z-a]": api.ErrSyntax, "[a": api.ErrSyntax, "\\": api.ErrSyntax, "\\q": api.ErrSyntax, full + "a": api.ErrLimit, full + "(": api.ErrLimit} {
			for _, good := range []string{"a", "-", full} {
				fail(t, "table a\n"+first+" "+bad+" "+good, 2, want)
				fail(t, "table a\n"+first+" "+good+" "+bad, 2, want)
			}
		}
		fail(t, "table a\n"+first+" ( "+full+"a", 2, api.ErrSyntax)
		fail(t, "table a\n"+first+" "+full+"a (", 2, api.ErrLimit)
	}
}

// P6.1: as many tables, rules of a table and bytes as possible, and one more.
func TestParseLimits(t *testing.T) {
	var most strings.Builder
	for _, x := range numbered(api.MaxTables) {
		most.WriteString("table " + x.Name + "\n")
	}
	pass(t, most.String(), numbered(api.MaxTables)...)
	pass(t, most.String()+"\n# c\n", numbered(api.MaxTables)...)
	fail(t, most.String()+"table x", api.MaxTables+1, api.ErrLimit)
	fail(t, most.String()+"keep a b\n\ntable x y", api.MaxTables+3, api.ErrLimit)

	rules := strings.Repeat("keep a b\n", api.MaxRules)
	full := table("a", "", slices.Repeat(cascade(keeps("a", "b")), api.MaxRules)...)
	pass(t, "table a\n"+rules, full)
	pass(t, "table a\n"+rules+"table b\nbreak - -", full, table("b", "", breaks("", "")))
	fail(t, "table a\n"+rules+"keep a b", api.MaxRules+2, api.ErrLimit)
	fail(t, "table a\n"+rules+"#\nbreak - -\n", api.MaxRules+3, api.ErrLimit)
	fail(t, "table b\nkeep a b\ntable a\n"+rules+"break a b", api.MaxRules+4, api.ErrLimit)

	for _, fill := range []string{" ", "\n", "#"} {
		file := "table a\n" + strings.Repeat(fill, api.MaxDocument-8)
		pass(t, file, table("a", ""))
		fail(t, file+fill, 0, api.ErrLimit)
	}
	fail(t, strings.Repeat("x", api.MaxDocument), 1, api.ErrSyntax)
}

// P6.1: the order of two errors of one line.
func TestParseErrorsOfLine(t *testing.T) {
	var most strings.Builder
	for _, x := range numbered(api.MaxTables) {
		most.WriteString("table " + x.Name + "\n")
	}
	full := "table a\n" + strings.Repeat("keep a b\n", api.MaxRules)
	long := strings.Repeat("a", api.MaxAtoms+1)
	fail(t, "x"+strings.Repeat(" ", api.MaxDocument), 0, api.ErrLimit)
	fail(t, strings.Repeat("break ( (\n", api.MaxDocument), 0, api.ErrLimit)
	fail(t, "table A b c", 1, api.ErrSyntax)
	fail(t, "table a\ntable a b c", 2, api.ErrSyntax)
	fail(t, most.String()+"table", api.MaxTables+1, api.ErrSyntax)
	fail(t, "break (", 1, api.ErrSyntax)
	fail(t, "keep a b c", 1, api.ErrSyntax)
	fail(t, full+"keep a", api.MaxRules+2, api.ErrSyntax)
	fail(t, "table a\ntable a B", 2, api.ErrName)
	fail(t, most.String()+"table A", api.MaxTables+1, api.ErrName)
	fail(t, most.String()+"table a A", api.MaxTables+1, api.ErrName)
	fail(t, most.String()+"table t3", api.MaxTables+1, api.ErrDuplicate)
	fail(t, "break ( b", 1, api.ErrState)
	fail(t, "keep a "+long, 1, api.ErrState)
	fail(t, full+"keep ( "+long, api.MaxRules+2, api.ErrSyntax)
	fail(t, full+"keep a (", api.MaxRules+2, api.ErrSyntax)
}

// P6.1: of the errors of two lines, that of the first line, whichever it is.
func TestParseErrorsOfLines(t *testing.T) {
	lines := []struct {
		s string
		e api.Errno
	}{
		{"rule a b", api.ErrSyntax}, {"table A", api.ErrName}, {"table a", api.ErrDuplicate}, {"keep ( b", api.ErrSyntax},
		{"keep b " + strings.Repeat("a", api.MaxAtoms+1), api.ErrLimit}, {"table", api.ErrSyntax}, {"table b A", api.ErrName},
	}
	for _, x := range lines {
		for _, y := range lines {
			fail(t, "table a\n"+x.s+"\n"+y.s, 2, x.e)
			fail(t, "\ntable a\n\nkeep a b\n"+x.s+"\n#\n"+y.s+"\n", 5, x.e)
		}
		fail(t, "break a b\ntable a\n"+x.s, 1, api.ErrState)
	}
}

// P6.2: lists of tables without an error.
func TestValidateOK(t *testing.T) {
	full := slices.Repeat(cascade(breaks(strings.Repeat("a", api.MaxAtoms), "")), api.MaxRules)
	for i, l := range [][]api.Table{
		nil, {}, tables(table("a", "")), tables(table("a", "none")), tables(table("a", "a")), tables(table("a", "b"), table("b", "a")), tables(table("a", "b"), table("aa", "b")),
		numbered(api.MaxTables), tables(table("a", "", full...), table("b", "", full...)), tables(table(strings.Repeat("n", api.MaxName), strings.Repeat("n", api.MaxName))),
		tables(table("a", "", api.Rule{}, api.Rule{Break: true, Before: []api.Atom{{}, {Min: 1}, {Many: true}, {Min: 1, Many: true}}})),
	} {
		if got := segment.Validate(l); got != api.OK {
			t.Errorf("%d: Validate = %d", i, got)
		}
	}
}

// faulty are rules with an error of pattern.Validate, by the error.
func faulty() map[api.Errno][]api.Rule {
	long, odd := make([]api.Atom, api.MaxAtoms+1), []api.Atom{{Min: 2}}
	longOdd := append(slices.Clone(odd), long...)
	return map[api.Errno][]api.Rule{
		api.ErrLimit:    {{Before: long}, {After: long}, {Before: long, After: odd}, {Before: longOdd}, {Before: atoms("a"), After: longOdd}},
		api.ErrArgument: {{Before: odd}, {After: odd}, {Before: odd, After: long}, {Before: []api.Atom{{}, {Min: -1}}}, {After: []api.Atom{{Min: math.MinInt}}}, {Before: atoms("a"), After: []api.Atom{{Min: math.MaxInt}}}},
	}
}

// P6.2: tables with one error each.
func TestValidateErrors(t *testing.T) {
	check := func(want api.Errno, bad api.Table) {
		t.Helper()
		for _, l := range [][]api.Table{{bad}, {table("x", ""), bad}, {table("x", "bad", keeps("a", "b")), bad, table("y", "x")}} {
			if got := segment.Validate(l); got != want {
				t.Errorf("Validate(%v) = %d, not %d", l, got, want)
			}
		}
	}
	for _, name := range []string{"", "A", "1", "-", " ", "a b", "a\n", "aB", "é", strings.Repeat("n", api.MaxName+1)} {
		check(api.ErrName, table(name, ""))
		check(api.ErrName, table(name, "b"))
		if name != "" {
			check(api.ErrName, table("a", name))
		}
	}
	check(api.ErrLimit, table("a", "", make([]api.Rule, api.MaxRules+1)...))
	for want, rules := range faulty() {
		for _, r := range rules {
			check(want, table("a", "", r))
			check(want, table("a", "b", breaks("a", "b"), r, keeps("", "")))
		}
	}
	for _, l := range [][]api.Table{{table("a", ""), table("a", "")}, {table("a", ""), table("b", ""), table("a", "b")}, {table("b", ""), table("a", "b", keeps("a", "b")), table("a", "b", keeps("a", "b"))}} {
		if got := segment.Validate(l); got != api.ErrDuplicate {
			t.Errorf("Validate(%v) = %d", l, got)
		}
	}
	if got := segment.Validate(numbered(api.MaxTables + 1)); got != api.ErrLimit {
		t.Errorf("Validate of too many tables = %d", got)
	}
}

// P6.2: the order of two errors, of one table and of two.
func TestValidateOrder(t *testing.T) {
	tooMany := make([]api.Rule, api.MaxRules+1)
	for i := range tooMany {
		tooMany[i].Before = []api.Atom{{Min: 2}}
	}
	odd, long := api.Rule{After: []api.Atom{{Min: 2}}}, api.Rule{Before: make([]api.Atom, api.MaxAtoms+1)}
	for i, x := range []struct {
		l    []api.Table
		want api.Errno
	}{
		{make([]api.Table, api.MaxTables+1), api.ErrLimit},
		{append(numbered(api.MaxTables), table("t0", "")), api.ErrLimit},
		{append(tables(table("a", "", odd)), numbered(api.MaxTables)...), api.ErrLimit},
		{tables(table("a", ""), table("a", "B")), api.ErrName},
		{tables(table("", ""), table("", "")), api.ErrName},
		{tables(table("A", "", tooMany...)), api.ErrName},
		{tables(table("a", "A", odd)), api.ErrName},
		{tables(table("a", ""), table("a", "", tooMany...)), api.ErrDuplicate},
		{tables(table("a", ""), table("a", "", odd)), api.ErrDuplicate},
		{tables(table("a", "", tooMany...)), api.ErrLimit},
		{tables(table("a", "", odd, long)), api.ErrArgument},
		{tables(table("a", "", long, odd)), api.ErrLimit},
		{tables(table("a", "", odd), table("a", "")), api.ErrArgument},
		{tables(table("a", "", odd), table("A", "")), api.ErrArgument},
		{tables(table("a", "", tooMany...), table("A", "")), api.ErrLimit},
		{tables(table("a", ""), table("a", ""), table("A", "")), api.ErrDuplicate},
		{tables(table("A", ""), table("a", "", odd)), api.ErrName},
		{tables(table("a", "", odd), table("b", "", tooMany...)), api.ErrArgument},
	} {
		if got := segment.Validate(x.l); got != x.want {
			t.Errorf("%d: Validate = %d, not %d", i, got, x.want)
		}
	}
}

// resolve checks the result of Resolve.
func resolve(t *testing.T, l []api.Table, name string, want []api.Rule, e api.Errno) {
	t.Helper()
	if got, err := segment.Resolve(l, name); !sameRules(got, want) || err != e {
		t.Errorf("Resolve(%v, %q) = %v, %d, not %v, %d", l, name, got, err, want, e)
	}
}

// P6.3: the rules of a table and of those that are asked after it.
func TestResolveRules(t *testing.T) {
	a, b, c := keeps("a", ""), breaks("b", "b"), keeps("", "c")
	l := tables(table("x", "", a, b), table("y", "x", c), table("z", "y"), table("w", "x", b, b), table("none", ""))
	resolve(t, l, "x", cascade(a, b), api.OK)
	resolve(t, l, "y", cascade(c, a, b), api.OK)
	resolve(t, l, "z", cascade(c, a, b), api.OK)
	resolve(t, l, "w", cascade(b, b, a, b), api.OK)
	resolve(t, l, "none", nil, api.OK)
	most := slices.Repeat(cascade(a), api.MaxRules)
	resolve(t, tables(table("x", "y", most...), table("y", "", most...)), "x", append(most, most...), api.OK)
}

// P6.3: names that no table has.
func TestResolveNames(t *testing.T) {
	l := tables(table("a", "none"), table("b", "a"), table("c", ""))
	for _, name := range []string{"none", "", "A", "a ", "aa", " ", strings.Repeat("n", api.MaxName+1)} {
		resolve(t, l, name, nil, api.ErrName)
		resolve(t, nil, name, nil, api.ErrName)
	}
	resolve(t, l, "a", nil, api.ErrName)
	resolve(t, l, "b", nil, api.ErrName)
	resolve(t, l, "c", nil, api.OK)
}

// P6.3: as many tables on the way as possible, and one more; cycles have no end.
func TestResolveDepth(t *testing.T) {
	way := numbered(api.MaxDepth + 2)
	var want []api.Rule
	for i := range way {
		r := breaks(strings.Repeat("a", i+1), "")
		way[i].Rules = cascade(r)
		if i+1 < len(way) {
			way[i].Parent = way[i+1].Name
		}
		if i >= 2 {
			want = append(want, r)
		}
	}
	resolve(t, way, "t2", want, api.OK)
	resolve(t, way, "t3", want[1:], api.OK)
	resolve(t, way, "t1", nil, api.ErrLimit)
	resolve(t, way, "t0", nil, api.ErrLimit)
	for size := 1; size <= api.MaxDepth+2; size++ {
		ring := numbered(size)
		for i := range ring {
			ring[i].Parent = ring[(i+1)%size].Name
		}
		ring = append(ring, table("in", "t0"))
		for _, x := range ring {
			resolve(t, ring, x.Name, nil, api.ErrLimit)
		}
	}
}

// P6.3: ways that are too long and end at no table: a table that is one too many
// is the limit, unless it is the one that does not exist.
func TestResolveBothErrors(t *testing.T) {
	way := numbered(api.MaxDepth + 1)
	for i := range way {
		way[i].Parent = fmt.Sprint("t", i+1)
	}
	resolve(t, way, "t0", nil, api.ErrLimit)
	resolve(t, way, "t1", nil, api.ErrName)
	resolve(t, way[:api.MaxDepth], "t0", nil, api.ErrName)
	resolve(t, way[:api.MaxDepth], "t1", nil, api.ErrName)
}

// P6.3: the errors of Validate come first, also those of tables off the way.
func TestResolveInvalid(t *testing.T) {
	for _, name := range []string{"a", "none", "", "A", "b"} {
		resolve(t, numbered(api.MaxTables+1), name, nil, api.ErrLimit)
		resolve(t, tables(table("a", "a"), table("A", "")), name, nil, api.ErrName)
		resolve(t, tables(table("a", ""), table("", "")), name, nil, api.ErrName)
		resolve(t, tables(table("a", "a"), table("a", "")), name, nil, api.ErrDuplicate)
		resolve(t, tables(table("a", "none"), table("b", "b", make([]api.Rule, api.MaxRules+1)...)), name, nil, api.ErrLimit)
		for want, rules := range faulty() {
			for _, r := range rules {
				resolve(t, tables(table("a", ""), table("b", "b", r)), name, nil, want)
			}
		}
	}
}

// spoil changes everything that a list of rules holds, also behind its end.
func spoil(rules []api.Rule) {
	for _, r := range rules {
		r.Before[0].Min, r.After[0].Min = 7, 7
	}
	clear(rules[:cap(rules)])
}

// R2: the rules of Resolve share no memory with the tables, whose spare capacity
// stays as it is.
func TestResolveIsNew(t *testing.T) {
	spare := make([]api.Rule, 1, 4)
	spare[0] = breaks("a", "b")
	l := tables(table("a", "b", spare...), table("b", "", keeps("b", "a"), breaks("b", "b")))
	want := cascade(breaks("a", "b"), keeps("b", "a"), breaks("b", "b"))
	for range 2 {
		got, e := segment.Resolve(l, "a")
		if !sameRules(got, want) || e != api.OK {
			t.Fatalf("Resolve = %v, %d", got, e)
		}
		if !sameRules(spare[1:cap(spare)], make([]api.Rule, 3)) {
			t.Fatal("Resolve has written behind the rules of a table")
		}
		spoil(got)
	}
}

// R2: the tables of Parse share no memory with each other, nor with those of
// another call.
func TestParseIsNew(t *testing.T) {
	file := "table a\nbreak a b\nkeep a b\ntable b\nbreak a b\nkeep a b"
	rules := cascade(breaks("a", "b"), keeps("a", "b"))
	l, _, _ := segment.Parse(file)
	spoil(l[0].Rules)
	if !sameRules(l[1].Rules, rules) {
		t.Error("two tables share memory")
	}
	spoil(l[1].Rules)
	pass(t, file, table("a", "", rules...), table("b", "", rules...))
}

// chapter are the rules of the example.
var chapter = cascade(keeps("Mr\\.", "\\s"), breaks("[.!?]", "\\s"))

// breaksAt checks the result of Breaks, and that of Decide at every offset.
func breaksAt(t *testing.T, rules []api.Rule, s string, want ...int) {
	t.Helper()
	if got := segment.Breaks(rules, s); !slices.Equal(got, want) {
		t.Errorf("Breaks(%v, %q) = %v, not %v", rules, s, got, want)
	}
	for at := -2; at <= len(s)+2; at++ {
		if segment.Decide(rules, s, at) != slices.Contains(want, at) {
			t.Errorf("Decide(%v, %q, %d) is wrong", rules, s, at)
		}
	}
}

// P6.4: ordinary rules, and rules with an empty Before or After.
func TestBreaksValues(t *testing.T) {
	breaksAt(t, chapter, "Mr. X came. He left.", 11)
	breaksAt(t, chapter, "One. Two! Three? Four", 4, 9, 16)
	breaksAt(t, chapter, "A.\nB.\tC.\rD.E. ", 2, 5, 8, 13)
	breaksAt(t, chapter, "mr. x Mr.  X", 3)
	breaksAt(t, chapter, "")
	breaksAt(t, chapter, ".")
	breaksAt(t, chapter, ". ", 1)
	breaksAt(t, nil, "a. b")
	breaksAt(t, cascade(breaks("", "")), "")
	breaksAt(t, cascade(breaks("", "")), "a")
	breaksAt(t, cascade(breaks("", "")), "a. b", 1, 2, 3)
	breaksAt(t, cascade(breaks("a", "")), "abaab", 1, 3, 4)
	breaksAt(t, cascade(breaks("", "a")), "abaab", 2, 3)
	breaksAt(t, cascade(breaks("a?", "a?")), "abaab", 1, 2, 3, 4)
	breaksAt(t, cascade(breaks("b.*", ".*c")), "abbcca", 2, 3, 4)
	breaksAt(t, cascade(breaks("abc", "d")), "bcdabcd", 6)
	breaksAt(t, cascade(breaks("\xff", "\\l")), "a\xffb\xff", 2)
}

// P6.4: the first rule that applies decides, and the other ones do not.
func TestDecideFirstRule(t *testing.T) {
	every := breaks("", "")
	breaksAt(t, cascade(keeps("b", ""), every), "abcb.b", 1, 3, 5)
	breaksAt(t, cascade(every, keeps("b", "")), "abc", 1, 2)
	breaksAt(t, cascade(keeps("", "b"), every), "abc", 2)
	breaksAt(t, cascade(keeps("a", "b"), every), "abcbab", 2, 3, 4)
	breaksAt(t, cascade(keeps("a", "c"), keeps("b", "a"), every), "abac", 1)
	breaksAt(t, cascade(breaks("a", "b"), keeps("a", ""), every), "abac", 1, 2)
	breaksAt(t, cascade(keeps("", ""), every), "abc")
	breaksAt(t, cascade(keeps("c", ""), keeps("", "a")), "abcab")
}

// P6.4: offsets that are not inside of the text.
func TestDecideOutside(t *testing.T) {
	for _, s := range []string{"", "a", "ab", ". ", strings.Repeat(". ", api.MaxLength)} {
		for _, at := range []int{math.MinInt, -1, 0, len(s), len(s) + 1, math.MaxInt} {
			if segment.Decide(cascade(breaks("", "")), s, at) {
				t.Errorf("Decide(%.10q, %d) is true", s, at)
			}
		}
	}
}

// P6.4: a text of as many bytes as possible, and of one more; Decide has no
// such limit.
func TestBreaksLimit(t *testing.T) {
	s := strings.Repeat("a", api.MaxLength-2) + ". "
	breaksAt(t, chapter, s, api.MaxLength-1)
	if got := segment.Breaks(cascade(breaks("", "")), s); len(got) != api.MaxLength-1 || got[0] != 1 || !slices.IsSorted(got) || got[len(got)-1] != api.MaxLength-1 {
		t.Errorf("Breaks at every byte = %v", got)
	}
	for _, more := range []string{" ", "a", strings.Repeat(". ", api.MaxLength)} {
		if got := segment.Breaks(chapter, s+more); len(got) != 0 {
			t.Errorf("Breaks of %d bytes = %v", len(s+more), got)
		}
		if !segment.Decide(chapter, s+more, api.MaxLength-1) {
			t.Errorf("Decide in %d bytes is false", len(s+more))
		}
	}
}

// P6.4: rules that are not valid decide as their patterns match.
func TestDecideInvalidRules(t *testing.T) {
	a, b := atoms("a"), atoms("b")
	a[0].Min, b[0].Min = 5, -5
	breaksAt(t, cascade(api.Rule{Break: true, Before: a}), "aab", 1, 2)
	breaksAt(t, cascade(api.Rule{Before: a, After: b}, breaks("", "")), "baac", 1)
	long := slices.Repeat(atoms("a"), api.MaxAtoms+1)
	s := strings.Repeat("a", api.MaxAtoms+2)
	breaksAt(t, cascade(api.Rule{Break: true, Before: long}), s, api.MaxAtoms+1)
	breaksAt(t, slices.Repeat(cascade(keeps("b", "")), api.MaxRules*api.MaxDepth+1), "bbb")
}
