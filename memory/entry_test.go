package memory_test

import (
	"math"
	"slices"
	"strconv"
	"strings"
	"testing"

	"bitext/api"
	"bitext/item"
	"bitext/memory"
	"bitext/notation"
)

// f is the fragment of a notation.
func f(s string) []api.Item {
	l, _, e := notation.Parse(s)
	if e != api.OK {
		panic("no notation: " + s)
	}
	return l
}

// text is a fragment of one text, or what looks like it if the text is empty.
func text(s string) []api.Item { return []api.Item{{Kind: api.Text, Text: s}} }

// tags are standalone tags with the numbers from n to m.
func tags(n, m int) []api.Item {
	var l []api.Item
	for ; n <= m; n++ {
		l = append(l, api.Item{Kind: api.Empty, Text: "b", ID: n})
	}
	return l
}

// entry is an entry without contexts.
func entry(source, target string) api.Entry {
	return api.Entry{Source: f(source), Target: f(target), Created: 5, Origin: api.Human}
}

// rich is a valid entry with a value in every field.
func rich() api.Entry {
	return api.Entry{
		Source: f("<1:b>a</1:b>{n}"), Target: f("{n}<1:b>x</1:b>"), Previous: "<9:x>p", Next: "n\\n",
		Author: "anna", Project: "p-1", Created: 5, Origin: api.Aligned,
	}
}

// change changes an entry.
type change func(e *api.Entry)

// with returns an entry with some changes.
func with(e api.Entry, changes ...change) api.Entry {
	for _, c := range changes {
		c(&e)
	}
	return e
}

func source(l []api.Item) change { return func(e *api.Entry) { e.Source = l } }

func target(l []api.Item) change { return func(e *api.Entry) { e.Target = l } }

func previous(s string) change { return func(e *api.Entry) { e.Previous = s } }

func next(s string) change { return func(e *api.Entry) { e.Next = s } }

func author(s string) change { return func(e *api.Entry) { e.Author = s } }

func project(s string) change { return func(e *api.Entry) { e.Project = s } }

func created(n int) change { return func(e *api.Entry) { e.Created = n } }

func origin(n int) change { return func(e *api.Entry) { e.Origin = n } }

// same reports whether two entries are equal.
func same(a, b api.Entry) bool {
	return item.Same(a.Source, b.Source) && item.Same(a.Target, b.Target) && a.Previous == b.Previous && a.Next == b.Next &&
		a.Author == b.Author && a.Project == b.Project && a.Created == b.Created && a.Origin == b.Origin
}

// defect is a change that makes an entry invalid. Those of a lesser place are
// found before those of a greater one.
type defect struct {
	field  string
	place  int
	change change
	want   api.Errno
}

// badFragments are fragments that are not valid.
var badFragments = []struct {
	items []api.Item
	want  api.Errno
}{
	{tags(1, api.MaxItems+1), api.ErrLimit},
	{text(strings.Repeat("a", api.MaxLength+1)), api.ErrLimit},
	{text(""), api.ErrArgument},
	{[]api.Item{{}}, api.ErrArgument},
	{[]api.Item{{Kind: api.Word, Text: "a"}}, api.ErrArgument},
	{[]api.Item{{Kind: api.Text, Text: "a", ID: 1}}, api.ErrArgument},
	{slices.Concat(text("a"), text("b")), api.ErrArgument},
	{[]api.Item{{Kind: api.Slot, Text: "N"}}, api.ErrArgument},
	{[]api.Item{{Kind: api.Open, Text: "b"}}, api.ErrArgument},
	{[]api.Item{{Kind: api.Empty, Text: "b", ID: api.MaxID + 1}}, api.ErrArgument},
	{slices.Concat(tags(1, 1), tags(1, 1)), api.ErrTag},
	{[]api.Item{{Kind: api.Open, Text: "b", ID: 1}, {Kind: api.Close, Text: "i", ID: 1}}, api.ErrTag},
}

// badContexts are strings that are no notations.
var badContexts = []struct {
	s    string
	want api.Errno
}{
	{"\n", api.ErrSyntax}, {"a\nb", api.ErrSyntax}, {"\t", api.ErrSyntax}, {"\r", api.ErrSyntax}, {"\x00", api.ErrSyntax},
	{"\\", api.ErrSyntax}, {"a\\q", api.ErrSyntax}, {"\\x41", api.ErrSyntax}, {"\\x0A", api.ErrSyntax},
	{"<", api.ErrSyntax}, {"<b>", api.ErrSyntax}, {"<1:B>", api.ErrSyntax}, {"<0:b/>", api.ErrSyntax}, {"<01:b/>", api.ErrSyntax}, {"<1000:b/>", api.ErrSyntax},
	{"{", api.ErrSyntax}, {"{}", api.ErrSyntax}, {"{N}", api.ErrSyntax},
	{"<1:b/><1:b/>", api.ErrTag}, {"</1:b></1:b>", api.ErrTag}, {"<1:b></1:i>", api.ErrTag},
	{strings.Repeat("a", api.MaxLength+1), api.ErrLimit}, {strings.Repeat("{n}", api.MaxItems+1), api.ErrLimit},
}

// badNames are strings that are neither names nor empty.
var badNames = []string{"A", "Anna", "1a", "-a", "a b", "a_b", " ", "a ", "a\n", "\n", "é", "\x00", "a\xff", strings.Repeat("a", api.MaxName+1)}

// defects returns the ways in which a field of a rich entry can be wrong.
func defects() []defect {
	l := []defect{
		{"source", 3, source(nil), api.ErrArgument},
		{"source", 3, source([]api.Item{}), api.ErrArgument},
		{"source", 3, source(f("<2:b>a</2:b>{n}")), api.ErrArgument},
		{"source", 3, source(f("<1:b>a</1:b><3:i/>")), api.ErrArgument},
		{"source", 3, source(f("<2:i/><1:b>a</1:b>")), api.ErrArgument},
		{"target", 3, target(f("<1:b>x</1:b><3:i/>")), api.ErrArgument},
		{"target", 3, target(f("<999:b/>")), api.ErrArgument},
	}
	for _, bad := range badFragments {
		l = append(l, defect{"source", 1, source(bad.items), bad.want}, defect{"target", 2, target(bad.items), bad.want})
	}
	for _, bad := range badContexts {
		l = append(l, defect{"previous", 4, previous(bad.s), bad.want}, defect{"next", 5, next(bad.s), bad.want})
	}
	for _, s := range badNames {
		l = append(l, defect{"author", 6, author(s), api.ErrName}, defect{"project", 6, project(s), api.ErrName})
	}
	for _, n := range []int{math.MinInt, -api.MaxTime, -1, api.MaxTime + 1, 1 << 32, math.MaxInt} {
		l = append(l, defect{"created", 7, created(n), api.ErrArgument})
	}
	for _, n := range []int{math.MinInt, -1, 0, api.Machine + 1, 256 + api.Human, 1<<32 + api.Human, math.MaxInt} {
		l = append(l, defect{"origin", 7, origin(n), api.ErrArgument})
	}
	return l
}

// checkValidate checks the error of an entry, and that it has a key exactly if
// there is none.
func checkValidate(t *testing.T, e api.Entry, want api.Errno) {
	t.Helper()
	if got := memory.Validate(e); got != want {
		t.Errorf("Validate(%+v) = %d, not %d", e, got, want)
	}
	if key := memory.Key(e); key == "" != (want != api.OK) {
		t.Errorf("the key of %+v, whose error is %d, is %q", e, want, key)
	}
}

// P16.1: ordinary entries.
func TestValidateOrdinary(t *testing.T) {
	checkValidate(t, rich(), api.OK)
	checkValidate(t, entry("Save", "Speichern"), api.OK)
	checkValidate(t, entry("a", ""), api.OK)
	checkValidate(t, with(entry("a", ""), target([]api.Item{})), api.OK)
	checkValidate(t, entry("{n} files", "{n} Dateien"), api.OK)
	checkValidate(t, entry("\\<\\{\\\\\\n\\t\\x00", "\xff"), api.OK)
	checkValidate(t, api.Entry{Source: text("a"), Origin: api.Human}, api.OK)
	checkValidate(t, api.Entry{}, api.ErrArgument)
	checkValidate(t, api.Entry{Target: text("a"), Origin: api.Human}, api.ErrArgument)
}

// P16.1: each error alone.
func TestValidateOneDefect(t *testing.T) {
	for _, d := range defects() {
		checkValidate(t, with(rich(), d.change), d.want)
	}
}

// P16.1: of two errors, that of the earlier place counts.
func TestValidateTwoDefects(t *testing.T) {
	all := defects()
	for _, a := range all {
		for _, b := range all {
			if a.field != b.field && a.place <= b.place {
				checkValidate(t, with(rich(), a.change, b.change), a.want)
				checkValidate(t, with(rich(), b.change, a.change), a.want)
			}
		}
	}
}

// P16.1: an entry with an error in every place, from which one after another is
// taken away.
func TestValidateAllDefects(t *testing.T) {
	places := []struct {
		wrong, right change
		want         api.Errno
	}{
		{source(slices.Concat(tags(1, 1), tags(1, 1))), source(f("<2:b/>")), api.ErrTag},
		{target(text(strings.Repeat("a", 2000))), target(f("{n}")), api.ErrLimit},
		{source(f("<2:b/>")), source(f("<1:b/>")), api.ErrArgument},
		{previous("\\"), previous("p"), api.ErrSyntax},
		{next("<1:b/><1:b/>"), next("n"), api.ErrTag},
		{author("?"), author("anna"), api.ErrName},
		{project("?"), project(""), api.ErrName},
		{created(-1), created(0), api.ErrArgument},
		{origin(0), origin(api.Machine), api.ErrArgument},
	}
	e := rich()
	for _, p := range slices.Backward(places) {
		p.wrong(&e)
	}
	for _, p := range places {
		checkValidate(t, e, p.want)
		p.right(&e)
	}
	checkValidate(t, e, api.OK)
}

// P16.1: the numbers of the tags are 1, 2, 3 and so on, in the order of their
// first occurrence in the source and then in the target.
func TestValidateNumbers(t *testing.T) {
	for _, x := range []struct {
		source, target string
		want           api.Errno
	}{
		{"<1:b>a</1:b>", "<1:b>x</1:b>", api.OK},
		{"<2:b>a</2:b>", "<2:b>x</2:b>", api.ErrArgument},
		{"<1:b/><2:b/><3:b/>", "<3:b/><1:b/><2:b/>", api.OK},
		{"<1:b/><3:b/><2:b/>", "<1:b/><2:b/><3:b/>", api.ErrArgument},
		{"<2:b/><1:b/>", "", api.ErrArgument},
		{"<1:b/><3:b/>", "<2:b/>", api.ErrArgument},
		{"<1:b/>", "<2:b/>", api.OK},
		{"<1:b/>", "<3:b/>", api.ErrArgument},
		{"<1:b/>", "<2:b/><1:b/>", api.OK},
		{"<1:b/>", "<3:b/><2:b/>", api.ErrArgument},
		{"<1:b/>", "<2:b/><3:b/>", api.OK},
		{"<1:b/><2:i/>", "<4:b/><3:b/>", api.ErrArgument},
		{"a", "<1:i/>", api.OK},
		{"a", "<2:i/>", api.ErrArgument},
		{"a", "<1:i><2:b>x</2:b></1:i>", api.OK},
		{"a", "<2:i><1:b>x</1:b></2:i>", api.ErrArgument},
		{"</1:b>a<2:b>", "x", api.OK},
		{"</2:b>a<1:b>", "x", api.ErrArgument},
		{"<1:b><2:i>a</1:b></2:i>", "<2:i>", api.OK},
		{"<1:b><2:i>a</2:i></1:b>", "", api.OK},
		{"<1:b/>", "<1:i/>", api.OK},
		{"{n}", "{m}", api.OK},
		{"<1:b>", "</1:i>", api.OK},
	} {
		checkValidate(t, entry(x.source, x.target), x.want)
	}
}

// P16.1: as many numbers as there can be.
func TestValidateManyNumbers(t *testing.T) {
	for _, x := range []struct {
		source, target []api.Item
		want           api.Errno
	}{
		{tags(1, api.MaxItems), tags(api.MaxItems+1, api.MaxID), api.OK},
		{tags(1, api.MaxItems), tags(1, api.MaxItems), api.OK},
		{tags(1, api.MaxItems), tags(api.MaxItems+1, api.MaxID+1), api.ErrArgument},
		{tags(1, api.MaxItems), tags(api.MaxItems+2, api.MaxID), api.ErrArgument},
		{tags(1, api.MaxItems-1), tags(api.MaxItems+1, api.MaxID), api.ErrArgument},
		{tags(2, api.MaxItems), nil, api.ErrArgument},
		{text("a"), tags(1, api.MaxItems), api.OK},
		{text("a"), tags(0, api.MaxItems-1), api.ErrArgument},
		{text(strings.Repeat("a", api.MaxLength)), text(strings.Repeat("a", api.MaxLength)), api.OK},
	} {
		checkValidate(t, with(rich(), source(x.source), target(x.target)), x.want)
	}
}

// P16.1: a context is empty or any notation, whatever the numbers of its tags are.
func TestValidateContexts(t *testing.T) {
	for _, s := range []string{
		"", "a", "<1:b>a</1:b>", "<9:x>y{n}", "</7:b>", "<999:b/>", "<2:b/><1:b/>", "<1:b><2:i></1:b></2:i>", "\\n\\t\\\\\\<\\{\\x00\\x7f\\x0d", ">}/:", "\xff", "é",
		strings.Repeat("a", api.MaxLength), strings.Repeat("\\n", api.MaxLength), strings.Repeat("{n}", api.MaxItems),
	} {
		checkValidate(t, with(rich(), previous(s)), api.OK)
		checkValidate(t, with(rich(), next(s)), api.OK)
		checkValidate(t, with(rich(), previous(s), next(s)), api.OK)
	}
}

// P16.1: an author and a project are names, or empty.
func TestValidateNames(t *testing.T) {
	names := []string{"", "a", "z", "anna", "h-1", "a-", "a--", "z9", strings.Repeat("a", api.MaxName)}
	for _, a := range names {
		for _, p := range names {
			checkValidate(t, with(rich(), author(a), project(p)), api.OK)
		}
	}
}

// P16.1: times and origins at their borders.
func TestValidateNumbersOfFields(t *testing.T) {
	for _, n := range []int{0, 1, 2, 1 << 20, api.MaxTime - 1, api.MaxTime} {
		for _, o := range []int{api.Human, api.Aligned, api.Machine} {
			checkValidate(t, with(rich(), created(n), origin(o)), api.OK)
		}
	}
}

// checkKey checks the key of an entry.
func checkKey(t *testing.T, e api.Entry, want string) {
	t.Helper()
	if got := memory.Key(e); got != want {
		t.Errorf("Key(%+v) = %q, not %q", e, got, want)
	}
}

// P16.2: the key of valid entries.
func TestKey(t *testing.T) {
	checkKey(t, rich(), "<1:b>a</1:b>{n}\n<9:x>p\nn\\n")
	checkKey(t, entry("a", "x"), "a\n\n")
	checkKey(t, with(entry("a", "x"), previous("p")), "a\np\n")
	checkKey(t, with(entry("a", "x"), next("n")), "a\n\nn")
	checkKey(t, with(entry("a", "x"), previous("p"), next("n")), "a\np\nn")
	checkKey(t, with(entry("a", "x"), previous("n"), next("p")), "a\nn\np")
	checkKey(t, with(entry("a", "x"), source(text("a\nb<{\\\x01\xff"))), "a\\nb\\<\\{\\\\\\x01\xff\n\n")
	checkKey(t, entry("</1:b><2:a x=\"1\"><3:br/>", "x"), "</1:b><2:a x=\"1\"><3:br/>\n\n")
	for _, c := range []change{target(nil), target(f("<2:i/>")), author(""), author("b"), project(""), project("q"), created(0), created(api.MaxTime), origin(api.Human), origin(api.Machine)} {
		checkKey(t, with(rich(), c), memory.Key(rich()))
	}
}

// P16.2: entries that are not valid have no key.
func TestKeyOfInvalidEntries(t *testing.T) {
	checkKey(t, api.Entry{}, "")
	for _, d := range defects() {
		checkKey(t, with(rich(), d.change), "")
	}
}

// P16.2: entries have the same key exactly if they have the same source and the
// same contexts.
func TestSameKey(t *testing.T) {
	notations := []string{"a", "b", "ab", "", "\\n", "a\\n", "\\na", "a\\nb", "\\\\n", "\\<1:b/>", "<1:b/>", "<1:b>", "</1:b>", "<1:i>", "{n}", "\\{n}", "n", "\\t", " ", "\xff"}
	keys := map[string]string{}
	for _, s := range notations {
		for _, p := range notations {
			for _, n := range notations {
				e := with(entry(s, "x"), previous(p), next(n))
				if s == "" {
					checkKey(t, e, "")
					continue
				}
				key, parts := memory.Key(e), strconv.Quote(s)+strconv.Quote(p)+strconv.Quote(n)
				if other, ok := keys[key]; ok {
					t.Errorf("%s and %s have the key %q", other, parts, key)
				}
				keys[key] = parts
			}
		}
	}
}
