package memory_test

import (
	"fmt"
	"slices"
	"testing"

	"bitext/api"
	"bitext/item"
	"bitext/memory"
)

// The tests of this file look at the memory of arguments and results, with that
// behind their last elements.

// roomy returns a copy of a fragment with items behind its end.
func roomy(l []api.Item) []api.Item {
	return slices.Concat(l, f("{spare}<7:b/>spare"))[:len(l)]
}

// roomyEntry returns a copy of an entry, the fragments of which are roomy.
func roomyEntry(e api.Entry) api.Entry {
	e.Source, e.Target = roomy(e.Source), roomy(e.Target)
	return e
}

// roomyList returns a copy of a list of roomy entries with entries behind its end.
func roomyList(m []api.Entry) []api.Entry {
	var l []api.Entry
	for _, e := range slices.Concat(m, []api.Entry{rich(), entry("spare", ""), rich()}) {
		l = append(l, roomyEntry(e))
	}
	return l[:len(m)]
}

// whole returns a copy of all the memory of a list.
func whole(m []api.Entry) []api.Entry {
	var l []api.Entry
	for _, e := range m[:cap(m)] {
		e.Source, e.Target = slices.Clone(e.Source[:cap(e.Source)]), slices.Clone(e.Target[:cap(e.Target)])
		l = append(l, e)
	}
	return l
}

// eachItem visits all the items in the memory of a list.
func eachItem(m []api.Entry, visit func(x *api.Item)) {
	for _, e := range m[:cap(m)] {
		for _, l := range [][]api.Item{e.Source[:cap(e.Source)], e.Target[:cap(e.Target)]} {
			for i := range l {
				visit(&l[i])
			}
		}
	}
}

// overwrite changes all the memory of a list, and checks that no part of it is
// there twice.
func overwrite(t *testing.T, m []api.Entry) {
	t.Helper()
	count := 0
	eachItem(m, func(x *api.Item) {
		count++
		*x = api.Item{Kind: -1, Text: "changed", ID: count}
	})
	count = 0
	eachItem(m, func(x *api.Item) {
		count++
		if x.ID != count {
			t.Errorf("two fragments share the item %d", x.ID)
		}
	})
	for i := range m[:cap(m)] {
		m[:cap(m)][i] = api.Entry{Author: "changed"}
	}
}

// call is a call with lists and an entry, some of which it does not look at.
type call struct {
	name string
	run  func(a, b []api.Entry, e api.Entry) []api.Entry
}

// calls are the calls of the package, those with a key for each key of stored and
// for others.
func calls() []call {
	list := func(m []api.Entry, _ any) []api.Entry { return m }
	l := []call{
		{"Validate", func(a, b []api.Entry, e api.Entry) []api.Entry { memory.Validate(e); return nil }},
		{"Key", func(a, b []api.Entry, e api.Entry) []api.Entry { memory.Key(e); return nil }},
		{"Compare", func(a, b []api.Entry, e api.Entry) []api.Entry { memory.Compare(e, a[1]); return nil }},
		{"Compare", func(a, b []api.Entry, e api.Entry) []api.Entry { memory.Compare(b[0], e); return nil }},
		{"Valid", func(a, b []api.Entry, e api.Entry) []api.Entry { memory.Valid(a); return nil }},
		{"Put", func(a, b []api.Entry, e api.Entry) []api.Entry { return list(memory.Put(a, e)) }},
		{"Put", func(a, b []api.Entry, e api.Entry) []api.Entry { return list(memory.Put(nil, e)) }},
		{"Union", func(a, b []api.Entry, e api.Entry) []api.Entry { return list(memory.Union(a, b)) }},
		{"Union", func(a, b []api.Entry, e api.Entry) []api.Entry { return list(memory.Union(b, a)) }},
		{"Union", func(a, b []api.Entry, e api.Entry) []api.Entry { return list(memory.Union(a, a)) }},
		{"Union", func(a, b []api.Entry, e api.Entry) []api.Entry { return list(memory.Union(a, nil)) }},
		{"Union", func(a, b []api.Entry, e api.Entry) []api.Entry { return list(memory.Union(nil, a)) }},
	}
	for _, key := range append([]string{"", "z"}, storedKeys...) {
		l = append(l,
			call{"Find", func(a, b []api.Entry, e api.Entry) []api.Entry { memory.Find(a, key); return nil }},
			call{"Delete", func(a, b []api.Entry, e api.Entry) []api.Entry { return list(memory.Delete(a, key)) }},
		)
	}
	return l
}

// R2: no call changes its arguments, and results share no memory with them, nor
// their entries with each other.
func TestArgumentsStay(t *testing.T) {
	newer := with(stored()[1], created(9))
	for _, c := range calls() {
		for _, e := range []api.Entry{entry(" ", "new"), entry("c", "new"), entry("z", ""), newer, stored()[4], {}, with(rich(), author("?")), entry("<2:b/>", "x")} {
			for _, other := range [][]api.Entry{stored()[2:], {newer, entry("c", "")}, {entry("b", "old"), entry("a", "")}, {{}}} {
				a, b, arg := roomyList(stored()), roomyList(other), roomyEntry(e)
				beforeA, beforeB, before := whole(a), whole(b), whole([]api.Entry{arg})
				check := func(when string) {
					if !sameList(whole(a), beforeA) || !sameList(whole(b), beforeB) || !sameList(whole([]api.Entry{arg}), before) {
						t.Fatalf("%s %s of %s, %s, %+v, an argument is another one", when, c.name, show(stored()), show(other), e)
					}
				}
				got := c.run(a, b, arg)
				check("after")
				want := slices.Clone(got)
				for i, x := range want {
					want[i].Source, want[i].Target = slices.Clone(x.Source), slices.Clone(x.Target)
				}
				again := c.run(a, b, arg)
				overwrite(t, got)
				check("with another result of")
				overwrite(t, a)
				overwrite(t, b)
				overwrite(t, []api.Entry{arg})
				if !sameList(again, want) {
					t.Fatalf("with other arguments, the result of %s is %s, not %s", c.name, show(again), show(want))
				}
			}
		}
	}
}

// R2: entries that share their fragments have their own ones in a result, empty
// fragments, too.
func TestSharedFragments(t *testing.T) {
	shared := roomy(f("<1:b>a</1:b>"))
	e := api.Entry{Source: shared, Target: shared, Created: 1, Origin: api.Human}
	m := []api.Entry{e, with(e, next("n"), target(shared[:0])), with(e, previous("p")), with(e, previous("q"), target(shared[:1]))}
	put, _ := memory.Put(m, with(e, previous("r")))
	rest, _ := memory.Delete(m, memory.Key(e))
	union, _ := memory.Union(m[:3], m[1:])
	for i, got := range [][]api.Entry{put, rest, union} {
		if want := []int{5, 3, 4}[i]; len(got) != want || !memory.Valid(got) {
			t.Errorf("result %d is %s", i, show(got))
		}
		overwrite(t, got)
	}
	if !item.Same(shared[:cap(shared)], slices.Concat(f("<1:b>a</1:b>"), f("{spare}<7:b/>spare"))) || !memory.Valid(m) {
		t.Errorf("the fragment is %v", shared[:cap(shared)])
	}
}

// R2: fragments of any length have memory of their own, with that behind their
// last items.
func TestSeparateFragments(t *testing.T) {
	for n := range 40 {
		var m []api.Entry
		for k := range 40 {
			m = append(m, with(rich(), source(tags(1, n+1)), target(tags(1, k)), next(fmt.Sprint(100+k))))
		}
		put, _ := memory.Put(m[1:], m[0])
		rest, _ := memory.Delete(m, memory.Key(m[0]))
		union, _ := memory.Union(m[:30], m[10:])
		if !sameList(put, m) || !sameList(rest, m[1:]) || !sameList(union, m) {
			t.Errorf("with %d tags in the sources, the results are %s, %s and %s", n+1, show(put), show(rest), show(union))
		}
		overwrite(t, slices.Concat(put, rest, union))
	}
}
