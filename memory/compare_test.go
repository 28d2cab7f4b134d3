package memory_test

import (
	"cmp"
	"math"
	"slices"
	"strings"
	"testing"

	"bitext/api"
	"bitext/memory"
)

// checkCompare checks how two entries compare, in both directions.
func checkCompare(t *testing.T, a, b api.Entry, want int) {
	t.Helper()
	if got := memory.Compare(a, b); got != want {
		t.Errorf("Compare(%+v, %+v) = %d, not %d", a, b, got, want)
	}
	if got := memory.Compare(b, a); got != -want {
		t.Errorf("Compare(%+v, %+v) = %d, not %d", b, a, got, -want)
	}
}

// checkAscending checks that each of these entries is less than all behind it.
func checkAscending(t *testing.T, l []api.Entry) {
	t.Helper()
	for i, a := range l {
		for j, b := range l {
			checkCompare(t, a, b, cmp.Compare(i, j))
		}
	}
}

// changes returns a change for each value.
func changes[T any](c func(T) change, values ...T) []change {
	var l []change
	for _, v := range values {
		l = append(l, c(v))
	}
	return l
}

// ascending are notations in ascending order of their bytes, which is not that of
// the texts.
var ascending = []string{" ", "!", "</1:b>", "<1:b/>", "<1:b>", "<1:b>a</1:b>", "<1:b>b</1:b>", "<1:i/>", "A", "Z", "\\<", "\\\\", "\\n", "\\x00", "\\{", "a", "a ", "a b", "ab", "b", "{m}", "{n}", "{n}a", "~", "é", "\xff"}

// ascendingNames are names in ascending order of their bytes, behind the empty
// string.
var ascendingNames = []string{"", "a", "a-", "a0", "a9", "aa", "ab", "b", "b" + strings.Repeat("a", api.MaxName-1), "z"}

// fragments returns the fragments of notations.
func fragments(notations []string) [][]api.Item {
	var l [][]api.Item
	for _, s := range notations {
		l = append(l, f(s))
	}
	return l
}

// fields returns, for each field that Compare looks at, changes in ascending order
// of the entries that they give. The fields are in the order of Compare.
func fields() [][]change {
	contexts := slices.Concat([]string{""}, ascending)
	return [][]change{
		changes(source, fragments(ascending)...),
		changes(previous, contexts...),
		changes(next, contexts...),
		changes(created, 0, 1, 2, 9, 10, api.MaxTime-1, api.MaxTime),
		changes(origin, api.Machine, api.Aligned, api.Human),
		changes(author, ascendingNames...),
		changes(project, ascendingNames...),
		changes(target, fragments(contexts)...),
	}
}

// P16.3: entries that differ in one field alone.
func TestCompareOneField(t *testing.T) {
	for _, base := range []api.Entry{entry("a", "x"), with(rich(), source(text("a")))} {
		for _, values := range fields() {
			var l []api.Entry
			for _, c := range values {
				l = append(l, with(base, c))
			}
			for _, e := range l {
				checkValidate(t, e, api.OK)
			}
			checkAscending(t, l)
		}
	}
}

// P16.3: an earlier field decides, whatever the later ones are.
func TestCompareTwoFields(t *testing.T) {
	all := fields()
	for i, earlier := range all {
		for _, later := range all[i+1:] {
			for n := range earlier[1:] {
				for m := range later[1:] {
					a, b := with(rich(), earlier[n], later[m+1]), with(rich(), earlier[n+1], later[m])
					checkCompare(t, a, b, -1)
				}
			}
		}
	}
}

// P16.3: one field against all the later ones.
func TestCompareAllFields(t *testing.T) {
	all := fields()
	last := func(l []change) change { return l[len(l)-1] }
	for i, values := range all {
		less, greater := with(rich(), values[0]), with(rich(), last(values))
		for _, later := range all[i+1:] {
			less, greater = with(less, last(later)), with(greater, later[0])
		}
		checkCompare(t, less, greater, -1)
	}
}

// P16.3: equal entries.
func TestCompareEqual(t *testing.T) {
	checkCompare(t, rich(), rich(), 0)
	checkCompare(t, api.Entry{}, api.Entry{}, 0)
	checkCompare(t, entry("a", ""), with(entry("a", ""), target([]api.Item{})), 0)
	for _, values := range fields() {
		for _, c := range values {
			checkCompare(t, with(rich(), c), with(rich(), c), 0)
		}
	}
	for _, d := range defects() {
		checkCompare(t, with(rich(), d.change), with(rich(), d.change), 0)
	}
}

// P16.3: an entry that is not valid is less than every valid one, as its key is
// empty.
func TestCompareValidAndInvalid(t *testing.T) {
	least := with(entry(" ", ""), created(0), origin(api.Machine))
	for _, d := range defects() {
		checkCompare(t, with(rich(), d.change), rich(), -1)
		checkCompare(t, with(rich(), d.change), least, -1)
	}
	checkCompare(t, api.Entry{}, least, -1)
}

// P16.3: entries that are not valid compare by all but their keys. Neither names
// nor numbers need be valid.
func TestCompareInvalidEntries(t *testing.T) {
	e := api.Entry{}
	checkAscending(t, []api.Entry{
		with(e, created(math.MinInt), origin(math.MaxInt)),
		with(e, created(math.MinInt), origin(4)),
		with(e, created(math.MinInt), origin(api.Machine)),
		with(e, created(math.MinInt), origin(0)),
		with(e, created(math.MinInt), origin(-1)),
		with(e, created(math.MinInt), origin(math.MinInt)),
		with(e, created(-1)),
		with(e, origin(math.MaxInt), author("z")),
		with(e, origin(api.Human)),
		e,
		with(e, target(text("a"))),
		with(e, target(f("a<2:b/>"))),
		with(e, project("\n"), target(text("a"))),
		with(e, project("\n\n")),
		with(e, project("A"), target(text("b"))),
		with(e, project("a")),
		with(e, author("\x00"), project("a")),
		with(e, author("A"), project("z")),
		with(e, author("AB")),
		with(e, author("a"), project("\xff")),
		with(e, author(strings.Repeat("a", 100))),
		with(e, author("\xff")),
		with(e, origin(math.MinInt)),
		with(e, created(1), origin(math.MaxInt)),
		with(e, created(1<<32), origin(math.MaxInt)),
		with(e, created(math.MaxInt), origin(math.MaxInt)),
		with(e, created(math.MaxInt)),
		with(e, created(math.MaxInt), origin(math.MinInt)),
	})
}

// P16.3: the sources and contexts of entries that are not valid do not count.
func TestCompareInvalidSources(t *testing.T) {
	wrong := with(rich(), author("?"))
	for _, c := range []change{source(nil), source(text("")), source(text("z")), source(f("<2:b/>")), previous(""), previous("\n"), previous("z"), next(""), next("\n"), next("z")} {
		checkCompare(t, with(wrong, c), wrong, 0)
		checkCompare(t, with(wrong, c, created(4)), wrong, -1)
		checkCompare(t, with(wrong, c, created(6)), wrong, 1)
	}
}

// P16.3: a target that is not valid compares as the empty one.
func TestCompareInvalidTargets(t *testing.T) {
	empty := with(rich(), source(nil), target(nil))
	for _, bad := range badFragments {
		wrong := with(empty, target(bad.items))
		checkCompare(t, wrong, empty, 0)
		checkCompare(t, wrong, with(empty, target(text("\x00"))), -1)
		checkCompare(t, with(wrong, project("z")), with(empty, target(text("z"))), 1)
		for _, other := range badFragments {
			checkCompare(t, wrong, with(empty, target(other.items)), 0)
		}
	}
}
