package memory_test

import (
	"cmp"
	"fmt"
	"maps"
	"math"
	"math/rand/v2"
	"slices"
	"strings"
	"testing"

	"bitext/api"
	"bitext/class"
	"bitext/item"
	"bitext/memory"
	"bitext/notation"
)

// The tests of this file set the package against a plain reading of the chapter:
// an entry is checked by its parts, and a memory is a map.

// wantError is the error of an entry. It goes by the numbers of the tags, each of
// which is at most one more than those before it.
func wantError(e api.Entry) api.Errno {
	for _, l := range [][]api.Item{e.Source, e.Target} {
		if err := item.Validate(l); err != api.OK {
			return err
		}
	}
	most, inOrder := 0, true
	for _, x := range slices.Concat(e.Source, e.Target) {
		inOrder = inOrder && x.ID <= most+1
		most = max(most, x.ID)
	}
	if item.Length(e.Source) == 0 || !inOrder {
		return api.ErrArgument
	}
	for _, s := range []string{e.Previous, e.Next} {
		if _, _, err := notation.Parse(s); err != api.OK {
			return err
		}
	}
	for _, s := range []string{e.Author, e.Project} {
		if s != "" && !class.IsName(s) {
			return api.ErrName
		}
	}
	if e.Created < 0 || e.Created > 1<<30 || e.Origin < 1 || e.Origin > 3 {
		return api.ErrArgument
	}
	return api.OK
}

// place is what the key of an entry tells about it.
type place struct{ source, previous, next string }

// placeOf is the place of an entry, or nothing if it is not valid.
func placeOf(e api.Entry) place {
	if wantError(e) != api.OK {
		return place{}
	}
	s, _ := notation.Format(e.Source)
	return place{s, e.Previous, e.Next}
}

func (p place) key() string {
	if p == (place{}) {
		return ""
	}
	return strings.Join([]string{p.source, p.previous, p.next}, "\n")
}

func (p place) compare(q place) int {
	return cmp.Or(cmp.Compare(p.source, q.source), cmp.Compare(p.previous, q.previous), cmp.Compare(p.next, q.next))
}

// wantOrder compares two entries.
func wantOrder(a, b api.Entry) int {
	if n := placeOf(a).compare(placeOf(b)); n != 0 {
		return n
	}
	if a.Created != b.Created {
		return cmp.Compare(a.Created, b.Created)
	}
	if a.Origin != b.Origin {
		return -cmp.Compare(a.Origin, b.Origin)
	}
	s, _ := notation.Format(a.Target)
	r, _ := notation.Format(b.Target)
	return slices.Compare([]string{a.Author, a.Project, s}, []string{b.Author, b.Project, r})
}

// model is a memory.
type model map[place]api.Entry

// modelOf is the model of a list with valid entries, of which the last one of
// each key counts.
func modelOf(l []api.Entry) model {
	m := model{}
	for _, e := range l {
		m[placeOf(e)] = e
	}
	return m
}

// list is the memory as a list.
func (m model) list() []api.Entry {
	var l []api.Entry
	for _, p := range slices.SortedFunc(maps.Keys(m), place.compare) {
		l = append(l, m[p])
	}
	return l
}

// union is the union of two memories.
func (m model) union(other model) model {
	both := model{}
	for _, x := range []model{m, other} {
		for p, e := range x {
			if old, ok := both[p]; !ok || wantOrder(e, old) > 0 {
				both[p] = e
			}
		}
	}
	return both
}

// P16.1, P16.2: every entry with one of some values in each field.
func TestEveryEntry(t *testing.T) {
	sources := []change{source(f("a")), source(f("<1:b>a</1:b>")), source(f("<1:b/><2:i/>")), source(f("<2:b/>")), source(nil), source(text("")), source(slices.Concat(tags(1, 1), tags(1, 1)))}
	targets := []change{target(nil), target(f("x{n}")), target(f("<1:b/>")), target(f("<2:i>")), target(f("<3:i/>")), target(tags(0, 0)), target(tags(1, api.MaxItems+1))}
	contexts := []string{"", "a", "</1:b>", "\n", "</1:b></1:b>"}
	names := []string{"", "a", "A"}
	for _, s := range sources {
		for _, l := range targets {
			e := with(api.Entry{}, s, l)
			for i := range 25 * 9 * 20 {
				e.Previous, e.Next = contexts[i%5], contexts[i/5%5]
				e.Author, e.Project = names[i/25%3], names[i/75%3]
				e.Created = []int{-1, 0, api.MaxTime, api.MaxTime + 1}[i/225%4]
				e.Origin = i / 900
				want := wantError(e)
				if got := memory.Validate(e); got != want {
					t.Fatalf("Validate(%+v) = %d, not %d", e, got, want)
				}
				if i%7 == 0 {
					checkKey(t, e, placeOf(e).key())
				}
			}
		}
	}
}

// chooser chooses entries and memories by a fixed seed.
type chooser struct{ *rand.Rand }

func newChooser(seed uint64) chooser { return chooser{rand.New(rand.NewPCG(16, seed))} }

// oneOf returns one of the values.
func oneOf[T any](c chooser, values ...T) T { return values[c.IntN(len(values))] }

// fragment returns a fragment of few items, which need not be valid.
func (c chooser) fragment() []api.Item {
	var l []api.Item
	for range c.IntN(5) {
		kind := oneOf(c, api.Text, api.Text, api.Open, api.Close, api.Empty, api.Slot)
		x := api.Item{Kind: kind, Text: oneOf(c, "a", "b", "n")}
		if kind != api.Text && kind != api.Slot {
			x.ID = 1 + c.IntN(4)
		}
		l = append(l, x)
	}
	if c.IntN(30) == 0 {
		l = append(l, api.Item{Kind: c.IntN(11) - 1, Text: oneOf(c, "", "a", "A"), ID: c.IntN(4) - 1})
	}
	return l
}

// pair returns a source and a target, with tags that are mostly numbered as they
// should be.
func (c chooser) pair() (source, target []api.Item) {
	source, target = c.fragment(), c.fragment()
	if c.IntN(10) > 0 {
		source, target = item.Canonical(source, target)
	}
	return source, target
}

// entry returns any entry, valid or not.
func (c chooser) entry() api.Entry {
	var e api.Entry
	e.Source, e.Target = c.pair()
	e.Previous, e.Next = oneOf(c, "", "a", "b", "<2:b>", "\\n"), oneOf(c, "", "a", "b", "</1:b>", "{n}")
	e.Author, e.Project = oneOf(c, "", "a", "anna"), oneOf(c, "", "a", "p-1")
	e.Created, e.Origin = c.IntN(3), 1+c.IntN(3)
	switch c.IntN(40) {
	case 0:
		e.Previous = oneOf(c, "\n", "{", "</1:b></1:b>")
	case 1:
		e.Next = oneOf(c, "\n", "{", "</1:b></1:b>")
	case 2:
		e.Author = oneOf(c, "?", "A", "\xff")
	case 3:
		e.Project = oneOf(c, "?", "A", "\xff")
	case 4:
		e.Created = oneOf(c, math.MinInt, -1, api.MaxTime, api.MaxTime+1, math.MaxInt)
	case 5:
		e.Origin = oneOf(c, math.MinInt, -1, 0, 4, 257, math.MaxInt)
	}
	return e
}

// valid returns a valid entry, with one of n sources at most.
func (c chooser) valid(n int) api.Entry {
	for {
		e := c.entry()
		if n > 0 {
			e.Source = text(fmt.Sprint(c.IntN(n)))
		}
		if wantError(e) == api.OK {
			return e
		}
	}
}

// some returns fewer than count valid entries of few keys.
func (c chooser) some(count int) []api.Entry {
	var l []api.Entry
	n := 1 + c.IntN(9)
	for range c.IntN(count) {
		l = append(l, c.valid(n))
	}
	return l
}

// P16.1 to P16.3: drawn entries, each with the others.
func TestDrawnEntries(t *testing.T) {
	c := newChooser(0)
	valid, invalid := 0, 0
	for range 200 {
		var l []api.Entry
		first := c.entry()
		for range 12 {
			e := c.entry()
			if c.IntN(2) == 0 {
				e.Source, e.Previous, e.Next = first.Source, first.Previous, first.Next
			}
			l = append(l, e)
			checkKey(t, e, placeOf(e).key())
			checkValidate(t, e, wantError(e))
			if wantError(e) == api.OK {
				valid++
			} else {
				invalid++
			}
		}
		for _, a := range l {
			for _, b := range l {
				want := wantOrder(a, b)
				checkCompare(t, a, b, want)
				if want == 0 && wantError(a) == api.OK && wantError(b) == api.OK && !same(a, b) {
					t.Fatalf("%+v and %+v are not equal", a, b)
				}
				if equal := placeOf(a) == placeOf(b); equal != (memory.Key(a) == memory.Key(b)) {
					t.Fatalf("the keys of %+v and %+v are %q and %q", a, b, memory.Key(a), memory.Key(b))
				}
			}
		}
		slices.SortFunc(l, memory.Compare)
		if !slices.IsSortedFunc(l, wantOrder) {
			t.Fatalf("sorted by Compare, the entries are %s", show(l))
		}
	}
	if valid < 500 || invalid < 500 {
		t.Errorf("%d entries are valid, %d are not", valid, invalid)
	}
}

// P16.4, P16.5, P16.7: many calls of Put and Delete, and Find behind each.
func TestManyCalls(t *testing.T) {
	for seed := range uint64(60) {
		c, m := newChooser(100+seed), model{}
		var l []api.Entry
		for range 80 {
			e := c.entry()
			if c.IntN(3) > 0 {
				e = c.valid(1 + c.IntN(6))
			}
			if c.IntN(3) == 0 && len(l) > 0 {
				old := oneOf(c, l...)
				e.Source, e.Previous, e.Next = old.Source, old.Previous, old.Next
			}
			p, err := placeOf(e), wantError(e)
			if c.IntN(3) > 0 {
				if err == api.OK {
					m[p] = e
				}
				l = putOne(t, l, e, m, err)
			} else {
				_, there := m[p]
				delete(m, p)
				l = deleteOne(t, l, p.key(), m, there)
			}
			for i, x := range l {
				if got := memory.Find(l, memory.Key(x)); got != i {
					t.Fatalf("Find(%s, %q) = %d, not %d", show(l), memory.Key(x), got, i)
				}
			}
		}
	}
}

// putOne puts an entry into l, and checks the result against the model behind it.
func putOne(t *testing.T, l []api.Entry, e api.Entry, m model, err api.Errno) []api.Entry {
	t.Helper()
	if err != api.OK {
		checkPut(t, l, e, nil, err)
		return l
	}
	checkPut(t, l, e, m.list(), api.OK)
	l, _ = memory.Put(l, e)
	if at := memory.Find(l, memory.Key(e)); at < 0 || !same(l[at], e) {
		t.Fatalf("in %s, %+v is found at %d", show(l), e, at)
	}
	return l
}

// deleteOne deletes a key of l, and checks the result against the model behind it.
func deleteOne(t *testing.T, l []api.Entry, key string, m model, there bool) []api.Entry {
	t.Helper()
	got, ok := memory.Delete(l, key)
	if ok != there || !ok && len(got) > 0 || ok && !sameList(got, m.list()) {
		t.Fatalf("Delete(%s, %q) = %s, %t, not %t", show(l), key, show(got), ok, there)
	}
	if !ok {
		got = l
	}
	if at := memory.Find(got, key); at >= 0 || !memory.Valid(got) {
		t.Fatalf("after Delete of %q, the key is found at %d of %s", key, at, show(got))
	}
	return got
}

// P16.7: Put of an entry leaves all others where they were, and Put and Delete of
// different keys can be exchanged.
func TestExchangedCalls(t *testing.T) {
	for seed := range uint64(1500) {
		c := newChooser(1000 + seed)
		m := modelOf(c.some(12)).list()
		a, b := c.valid(5), c.valid(5)
		if placeOf(a) == placeOf(b) {
			continue
		}
		var x, y [3][]api.Entry
		withA, _ := memory.Put(m, a)
		withB, _ := memory.Put(m, b)
		x[0], _ = memory.Put(withA, b)
		y[0], _ = memory.Put(withB, a)
		x[1], y[1] = without(withA, b), without(m, b)
		y[1], _ = memory.Put(y[1], a)
		x[2], y[2] = without(without(m, a), b), without(without(m, b), a)
		for i := range x {
			if !memory.Valid(x[i]) || !sameList(x[i], y[i]) {
				t.Fatalf("from %s, with %+v and %+v, exchange %d gives %s or %s", show(m), a, b, i, show(x[i]), show(y[i]))
			}
		}
		others := without(m, a)
		if !sameList(without(withA, a), others) || len(withA) != len(others)+1 {
			t.Fatalf("Put(%s, %+v) = %s", show(m), a, show(withA))
		}
	}
}

// without returns a memory without the entry with the key of e, if there is one.
func without(m []api.Entry, e api.Entry) []api.Entry {
	if l, ok := memory.Delete(m, memory.Key(e)); ok {
		return l
	}
	return m
}

// P16.4: lists that are memories, and others.
func TestDrawnLists(t *testing.T) {
	c := newChooser(2)
	yes, no := 0, 0
	for range 3000 {
		l := c.some(6)
		if c.IntN(2) == 0 {
			l = modelOf(l).list()
		}
		if c.IntN(4) == 0 {
			l = append(l, c.entry())
		}
		want := true
		for i, e := range l {
			want = want && wantError(e) == api.OK && (i == 0 || placeOf(l[i-1]).compare(placeOf(e)) < 0)
		}
		if got := memory.Valid(l); got != want {
			t.Fatalf("Valid(%s) = %t", show(l), got)
		}
		if want {
			yes++
		} else {
			no++
		}
	}
	if yes < 500 || no < 500 {
		t.Errorf("%d lists are memories, %d are not", yes, no)
	}
}

// unionOf is the union of two memories that have few entries.
func unionOf(t *testing.T, a, b []api.Entry) []api.Entry {
	t.Helper()
	l, err := memory.Union(a, b)
	if err != api.OK || !memory.Valid(l) {
		t.Fatalf("Union(%s, %s) = %s, %d", show(a), show(b), show(l), err)
	}
	return l
}

// P16.6, P16.7: unions of drawn memories do not depend on their order.
func TestDrawnUnions(t *testing.T) {
	for seed := range uint64(1500) {
		c := newChooser(3000 + seed)
		a, b, d := modelOf(c.some(12)), modelOf(c.some(12)), modelOf(c.some(12))
		x, y, z := a.list(), b.list(), d.list()
		checkUnion(t, x, y, a.union(b).list(), api.OK)
		checkUnion(t, x, x, x, api.OK)
		both := unionOf(t, x, y)
		checkUnion(t, both, x, both, api.OK)
		checkUnion(t, both, y, both, api.OK)
		all := a.union(b).union(d).list()
		checkUnion(t, both, z, all, api.OK)
		checkUnion(t, x, unionOf(t, y, z), all, api.OK)
		checkUnion(t, unionOf(t, x, z), y, all, api.OK)
	}
}

// P16.4, P16.6: memories that are full, or almost.
func TestDrawnFullMemories(t *testing.T) {
	pool := numbered(0, api.MaxEntries+9)
	refused, done := 0, 0
	for seed := range uint64(80) {
		c, a, b := newChooser(5000+seed), model{}, model{}
		for i, n := range c.Perm(len(pool))[:api.MaxEntries-1+c.IntN(4)] {
			e := with(pool[n], created(c.IntN(9)))
			if i < api.MaxEntries-2 {
				a[placeOf(e)] = e
			} else {
				b[placeOf(e)] = e
			}
		}
		for _, e := range a.list()[:c.IntN(30)] {
			b[placeOf(e)] = with(e, created(c.IntN(9)))
		}
		want, err := a.union(b).list(), api.OK
		if len(want) > api.MaxEntries {
			want, err = nil, api.ErrLimit
			refused++
		} else {
			done++
		}
		checkUnion(t, a.list(), b.list(), want, err)
		e, put := oneOf(c, b.list()...), maps.Clone(a)
		put[placeOf(e)] = e
		checkPut(t, a.list(), e, put.list(), api.OK)
	}
	if refused < 20 || done < 20 {
		t.Errorf("%d unions were refused, %d were not", refused, done)
	}
}

// R1: full memories of long entries, and longer lists.
func TestLongEntries(t *testing.T) {
	var m []api.Entry
	for _, e := range numbered(1, api.MaxEntries) {
		e.Source, e.Target = slices.Concat(e.Source, tags(1, api.MaxItems-1)), tags(api.MaxItems, api.MaxID)
		e.Previous, e.Next = strings.Repeat("{n}", api.MaxItems), strings.Repeat("\\x00", api.MaxLength)
		m = append(m, e)
	}
	checkPut(t, m, rich(), nil, api.ErrLimit)
	if at := memory.Find(m, memory.Key(m[77])); at != 77 {
		t.Errorf("the entry 77 is found at %d", at)
	}
	if got, err := memory.Union(m, m); err != api.OK || !sameList(got, m) {
		t.Errorf("the union of %s with themselves is %s, %d", show(m), show(got), err)
	}
	huge := slices.Repeat(m, 1<<10)
	checkUnion(t, huge, m[:1], nil, api.ErrArgument)
	checkPut(t, huge, rich(), nil, api.ErrArgument)
	checkFind(t, huge, memory.Key(m[0]), -1)
}
