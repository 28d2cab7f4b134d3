package memory_test

import (
	"fmt"
	"slices"
	"testing"

	"bitext/api"
	"bitext/memory"
)

// stored is a memory of five entries, three of which have the same source.
func stored() []api.Entry {
	return []api.Entry{
		entry("<1:b>a</1:b>", "<1:b>v</1:b>"),
		entry("b", "w"),
		with(entry("b", "x"), next("c")),
		with(entry("b", "y"), previous("a"), created(7)),
		with(entry("d", "z"), origin(api.Machine), author("anna")),
	}
}

// storedKeys are the keys of stored.
var storedKeys = []string{"<1:b>a</1:b>\n\n", "b\n\n", "b\n\nc", "b\na\n", "d\n\n"}

// numbered are entries with the sources from n to m.
func numbered(n, m int) []api.Entry {
	var l []api.Entry
	for ; n <= m; n++ {
		l = append(l, entry(fmt.Sprintf("%05d", n), "x"))
	}
	return l
}

// noMemories are lists that are not memories.
func noMemories() [][]api.Entry {
	m, bad := stored(), with(entry("c", "x"), author("?"))
	return [][]api.Entry{
		{{}},
		{bad},
		{bad, m[0]},
		{m[0], m[1], bad, m[4]},
		{m[0], m[1], bad},
		{m[1], m[0]},
		{m[0], m[2], m[1], m[3]},
		{m[0], m[1], m[2], m[4], m[3]},
		{m[0], m[0]},
		{m[0], m[1], with(m[1], target(nil), created(9)), m[2]},
		{m[0], m[1], m[4], m[4]},
		slices.Concat(m, m),
		numbered(0, api.MaxEntries),
		numbered(0, 3*api.MaxEntries),
		slices.Concat(numbered(0, api.MaxEntries-3), m[1:2], m[1:2]),
	}
}

// sameList reports whether two lists have equal entries.
func sameList(a, b []api.Entry) bool { return slices.EqualFunc(a, b, same) }

// show returns a list as a short text.
func show(m []api.Entry) string {
	if len(m) > 20 {
		return fmt.Sprintf("%d entries", len(m))
	}
	return fmt.Sprintf("%+v", m)
}

// checkPut checks the result of Put, and its error.
func checkPut(t *testing.T, m []api.Entry, e api.Entry, want []api.Entry, err api.Errno) {
	t.Helper()
	got, gotErr := memory.Put(m, e)
	if gotErr != err || !sameList(got, want) {
		t.Errorf("Put(%s, %+v) = %s, %d, not %s, %d", show(m), e, show(got), gotErr, show(want), err)
	}
}

// checkFind checks the index of a key, and that Delete takes the entry there.
func checkFind(t *testing.T, m []api.Entry, key string, want int) {
	t.Helper()
	if got := memory.Find(m, key); got != want {
		t.Errorf("Find(%s, %q) = %d, not %d", show(m), key, got, want)
	}
	var rest []api.Entry
	if want >= 0 {
		rest = slices.Concat(m[:want], m[want+1:])
	}
	if got, ok := memory.Delete(m, key); ok != (want >= 0) || !sameList(got, rest) {
		t.Errorf("Delete(%s, %q) = %s, %t, not %s", show(m), key, show(got), ok, show(rest))
	}
}

// checkUnion checks the union of two lists, in both directions, and its error.
func checkUnion(t *testing.T, a, b, want []api.Entry, err api.Errno) {
	t.Helper()
	if got, gotErr := memory.Union(a, b); gotErr != err || !sameList(got, want) {
		t.Errorf("Union(%s, %s) = %s, %d, not %s, %d", show(a), show(b), show(got), gotErr, show(want), err)
	}
	if got, gotErr := memory.Union(b, a); gotErr != err || !sameList(got, want) {
		t.Errorf("Union(%s, %s) = %s, %d, not %s, %d", show(b), show(a), show(got), gotErr, show(want), err)
	}
}

// P16.4: what is a memory.
func TestValid(t *testing.T) {
	m := stored()
	for _, l := range [][]api.Entry{nil, {}, m, m[:1], m[4:], {m[0], m[4]}, {m[1], m[2]}, {m[2], m[3]}, numbered(0, api.MaxEntries-1)} {
		if !memory.Valid(l) {
			t.Errorf("%s are not a memory", show(l))
		}
	}
	for i, l := range noMemories() {
		if memory.Valid(l) {
			t.Errorf("list %d, %s, is a memory", i, show(l))
		}
	}
}

// P16.4: an entry that is not valid, alone and among valid ones.
func TestValidOfInvalidEntries(t *testing.T) {
	for _, d := range defects() {
		bad := with(rich(), d.change)
		for _, l := range [][]api.Entry{{bad}, {bad, entry("b", "x")}, {entry(" ", "x"), bad}, {entry(" ", "x"), bad, entry("b", "x")}} {
			if memory.Valid(l) {
				t.Errorf("%s is a memory", show(l))
			}
		}
	}
}

// P16.4: the order is that of the keys alone, and that of their bytes.
func TestValidOrder(t *testing.T) {
	var l []api.Entry
	for _, s := range ascending {
		for _, p := range []string{"", "\\<", "a"} {
			for _, n := range []string{"", "Z", "\\n"} {
				l = append(l, with(entry(s, "x"), previous(p), next(n), created(len(ascending)*9-len(l))))
			}
		}
	}
	if !memory.Valid(l) {
		t.Error("ascending keys are not a memory")
	}
	for i := range len(l) - 1 {
		swapped := slices.Clone(l)
		swapped[i], swapped[i+1] = l[i+1], l[i]
		if memory.Valid(swapped) {
			t.Errorf("with %+v behind %+v it is a memory", l[i], l[i+1])
		}
	}
}

// P16.4: new keys at the beginning, in the middle and at the end.
func TestPutNewKey(t *testing.T) {
	m := stored()
	checkPut(t, nil, rich(), []api.Entry{rich()}, api.OK)
	checkPut(t, []api.Entry{}, entry("a", ""), []api.Entry{entry("a", "")}, api.OK)
	for i, e := range []api.Entry{
		entry(" ", "new"), entry("a", "new"), with(entry("b", "new"), next("b")), with(entry("b", "new"), next("d")), with(entry("b", "new"), previous("a"), next("a")), entry("z", "new"),
	} {
		checkPut(t, m, e, slices.Insert(slices.Clone(m), i, e), api.OK)
	}
}

// P16.4: an entry with the same key is replaced, by a lesser one, too.
func TestPutSameKey(t *testing.T) {
	m := stored()
	for i, e := range m {
		checkPut(t, m, e, m, api.OK)
		for _, c := range []change{created(0), created(8), origin(api.Machine), origin(api.Human), author(""), author("zoe"), project("p"), target(nil), target(text("new"))} {
			want := slices.Clone(m)
			want[i] = with(e, c)
			checkPut(t, m, want[i], want, api.OK)
		}
	}
}

// P16.4: what is put is stored as it is.
func TestPutOneByOne(t *testing.T) {
	var m, want []api.Entry
	for _, i := range []int{3, 0, 4, 1, 2, 0, 3} {
		e := stored()[i]
		if at := slices.IndexFunc(want, func(x api.Entry) bool { return memory.Key(x) >= storedKeys[i] }); at < 0 {
			want = append(want, e)
		} else if memory.Key(want[at]) != storedKeys[i] {
			want = slices.Insert(want, at, e)
		}
		checkPut(t, m, e, want, api.OK)
		m, _ = memory.Put(m, e)
	}
	if !sameList(m, stored()) {
		t.Errorf("the memory is %s", show(m))
	}
}

// P16.4: entries that are not valid, in any memory.
func TestPutInvalidEntry(t *testing.T) {
	full := numbered(1, api.MaxEntries)
	for _, d := range defects() {
		bad := with(rich(), d.change)
		checkPut(t, nil, bad, nil, d.want)
		checkPut(t, stored(), bad, nil, d.want)
		checkPut(t, []api.Entry{rich()}, bad, nil, d.want)
	}
	checkPut(t, full, with(rich(), author("?")), nil, api.ErrName)
	checkPut(t, full, with(full[0], previous("\\")), nil, api.ErrSyntax)
}

// P16.4: lists that are not memories.
func TestPutIntoNoMemory(t *testing.T) {
	for _, l := range noMemories() {
		for _, e := range []api.Entry{l[0], l[len(l)-1], rich(), entry("zz", ""), with(rich(), author("?")), with(rich(), previous("\\"))} {
			checkPut(t, l, e, nil, api.ErrArgument)
		}
	}
}

// P16.4: a full memory has no room for a new key, wherever it stands.
func TestPutIntoFullMemory(t *testing.T) {
	full := numbered(1, api.MaxEntries)
	for _, e := range []api.Entry{entry("0", "new"), entry("00500a", "new"), with(full[7], previous("a")), entry("a", "new")} {
		checkPut(t, full, e, nil, api.ErrLimit)
	}
	for _, i := range []int{0, 1, 500, api.MaxEntries - 1} {
		want := slices.Clone(full)
		want[i] = with(full[i], target(text("new")), created(0))
		checkPut(t, full, want[i], want, api.OK)
	}
	checkPut(t, full[1:], full[0], full, api.OK)
	checkPut(t, full[:api.MaxEntries-1], full[api.MaxEntries-1], full, api.OK)
	checkPut(t, slices.Concat(full[:9], full[10:]), full[9], full, api.OK)
}

// P16.5: keys that are there, and others.
func TestFindAndDelete(t *testing.T) {
	m := stored()
	for i, key := range storedKeys {
		checkFind(t, m, key, i)
		checkFind(t, m[i:], key, 0)
		checkFind(t, m[:i+1], key, i)
		checkFind(t, m[i:i+1], key, 0)
		checkFind(t, m[:i], key, -1)
		checkFind(t, m[i+1:], key, -1)
		checkFind(t, nil, key, -1)
	}
	for _, key := range []string{"", "\n", "\n\n", "\n\n\n", "a", "a\n\n", "b", "b\n", "b\n\n\n", "b\n\nd", "b\na", "b\na\nc", "B\n\n", "c\n\n", "d\n\nb", "z", "\xff", " "} {
		checkFind(t, m, key, -1)
		checkFind(t, nil, key, -1)
	}
}

// P16.5: lists that are not memories have no keys.
func TestFindInNoMemory(t *testing.T) {
	for _, l := range noMemories() {
		for _, key := range []string{"", memory.Key(l[0]), memory.Key(l[len(l)-1]), memory.Key(l[len(l)/2]), "b\n\n", "a"} {
			checkFind(t, l, key, -1)
		}
	}
}

// P16.5: full memories.
func TestFindInFullMemory(t *testing.T) {
	full := numbered(0, api.MaxEntries-1)
	for _, i := range []int{0, 1, 2, 511, 512, 513, api.MaxEntries - 2, api.MaxEntries - 1} {
		checkFind(t, full, fmt.Sprintf("%05d\n\n", i), i)
		checkFind(t, full, fmt.Sprintf("%05d\n", i), -1)
		checkFind(t, full, fmt.Sprintf("%05d\n\n\n", i), -1)
	}
	checkFind(t, full, "01024\n\n", -1)
	checkFind(t, full, "", -1)
}

// P16.6: memories with no key and with all keys in common.
func TestUnion(t *testing.T) {
	m := stored()
	checkUnion(t, nil, nil, nil, api.OK)
	checkUnion(t, nil, []api.Entry{}, nil, api.OK)
	checkUnion(t, m, nil, m, api.OK)
	checkUnion(t, m, m, m, api.OK)
	checkUnion(t, m, m[2:], m, api.OK)
	checkUnion(t, m[1:3], m, m, api.OK)
	for i := range m {
		checkUnion(t, m[:i], m[i:], m, api.OK)
		checkUnion(t, m[i:i+1], slices.Concat(m[:i], m[i+1:]), m, api.OK)
		checkUnion(t, m[:i+1], m[i:], m, api.OK)
	}
	checkUnion(t, []api.Entry{m[0], m[2], m[4]}, []api.Entry{m[1], m[3]}, m, api.OK)
	checkUnion(t, []api.Entry{m[0], m[1], m[4]}, []api.Entry{m[1], m[2], m[3]}, m, api.OK)
}

// P16.6: of two entries with the same key, the greater one remains.
func TestUnionOfVersions(t *testing.T) {
	m := stored()
	versions := []api.Entry{
		with(entry("b", "z"), created(0)),
		with(entry("b", "x"), created(5), origin(api.Machine), author("z")),
		with(entry("b", "z"), created(5), origin(api.Aligned)),
		with(entry("b", "a"), created(5)),
		m[1],
		with(entry("b", "x"), created(5)),
		with(entry("b", "a"), created(5), project("a")),
		with(entry("b", "a"), created(5), author("a")),
		with(entry("b", "a"), created(6), origin(api.Machine)),
	}
	checkAscending(t, versions)
	for i, less := range versions {
		for _, e := range versions[i:] {
			checkUnion(t, []api.Entry{less}, []api.Entry{e}, []api.Entry{e}, api.OK)
			checkUnion(t, []api.Entry{m[0], less, m[3]}, []api.Entry{e, m[2], m[4]}, []api.Entry{m[0], e, m[2], m[3], m[4]}, api.OK)
		}
	}
	var less, mixed, both []api.Entry
	for i, e := range m {
		less = append(less, with(e, created(1)))
		mixed = append(mixed, with(e, created(i%2*9)))
		both = append(both, with(e, created(max(1, i%2*9))))
	}
	checkUnion(t, m, less, m, api.OK)
	checkUnion(t, less, mixed, both, api.OK)
}

// P16.6: lists that are not memories, on either side and on both.
func TestUnionOfNoMemories(t *testing.T) {
	all := noMemories()
	for i, l := range all {
		for _, m := range [][]api.Entry{nil, stored(), numbered(1, api.MaxEntries), l, all[len(all)-1-i]} {
			checkUnion(t, l, m, nil, api.ErrArgument)
		}
	}
}

// P16.6: as many entries as a memory can have, and one more.
func TestUnionLimit(t *testing.T) {
	all := numbered(0, api.MaxEntries)
	full := all[:api.MaxEntries]
	checkUnion(t, full, full, full, api.OK)
	checkUnion(t, full, nil, full, api.OK)
	checkUnion(t, full, full[7:9], full, api.OK)
	checkUnion(t, full, full[:api.MaxEntries-1], full, api.OK)
	for _, n := range []int{1, 500, api.MaxEntries - 1} {
		checkUnion(t, full[:n], full[n:], full, api.OK)
		checkUnion(t, all[:n], all[n:], nil, api.ErrLimit)
		checkUnion(t, all[:n+1], all[n:], nil, api.ErrLimit)
	}
	checkUnion(t, full, all[1:], nil, api.ErrLimit)
	checkUnion(t, full, all[api.MaxEntries:], nil, api.ErrLimit)
	checkUnion(t, full, []api.Entry{entry(" ", "x")}, nil, api.ErrLimit)
	checkUnion(t, full, []api.Entry{with(full[3], next("a"))}, nil, api.ErrLimit)
	checkUnion(t, full, []api.Entry{with(full[3], created(0)), full[9]}, full, api.OK)
	checkUnion(t, full, numbered(5000, 5000+api.MaxEntries-1), nil, api.ErrLimit)
	newer := slices.Clone(full)
	newer[3] = with(full[3], created(9))
	checkUnion(t, full, newer[3:4], newer, api.OK)
}

// The chapter's examples.
func TestExamples(t *testing.T) {
	e := entry("b", "x")
	m := numbered(1, 9)
	for _, x := range []api.Entry{entry("c", "x"), with(e, next("z")), entry("a", "x"), with(e, previous("z")), e} {
		m, _ = memory.Put(m, x)
	}
	for i, x := range []api.Entry{entry("a", "x"), e, with(e, next("z")), with(e, previous("z")), entry("c", "x")} {
		if !same(m[9+i], x) {
			t.Errorf("the entry %d is %+v", 9+i, m[9+i])
		}
	}
	checkValidate(t, entry("<2:b>a</2:b>", ""), api.ErrArgument)
	checkValidate(t, entry("a<2:b/>", "<2:b/>"), api.ErrArgument)
}
