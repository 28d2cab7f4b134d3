package distance_test

import (
	"math/rand/v2"
	"slices"
	"testing"

	"bitext/api"
	"bitext/distance"
)

// The tests of this file set the package against a plain statement of the
// promises: all scripts from one list to another are made and priced, and those
// with the least price are searched.

// small returns s with small letters.
func small(s string) string {
	l := []byte(s)
	for i, b := range l {
		if 'A' <= b && b <= 'Z' {
			l[i] = b + 32
		}
	}
	return string(l)
}

// weigh returns the weight of a token.
func weigh(x api.Token) int { return weights[x.Kind] }

func isTag(x api.Token) bool { return x.Kind == api.Open || x.Kind == api.Close || x.Kind == api.Empty }

// isOther reports whether no token of a fragment has the kind of x.
func isOther(x api.Token) bool { return x.Kind < api.Open || x.Kind > api.Sign }

func same(a, b api.Token) bool { return a.Kind == b.Kind && a.Text == b.Text }

// cost returns what a pair costs, and whether it can be one.
func cost(a, b api.Token) (int, bool) {
	switch {
	case same(a, b):
		return 0, true
	case a.Kind != b.Kind || isTag(a) || isOther(a):
		return 0, false
	case a.Kind == api.Word && small(a.Text) == small(b.Text):
		return 1, true
	}
	return weigh(a), true
}

// isScript reports whether a list of edits is a script.
func isScript(a, b []api.Token, script []api.Edit) bool {
	var indexes [2][]int
	for _, e := range script {
		if e.A < -1 || e.B < -1 || e.A == -1 && e.B == -1 {
			return false
		}
		if e.A >= 0 {
			indexes[0] = append(indexes[0], e.A)
		}
		if e.B >= 0 {
			indexes[1] = append(indexes[1], e.B)
		}
	}
	for i, n := range []int{len(a), len(b)} {
		if len(indexes[i]) != n {
			return false
		}
		for j, index := range indexes[i] {
			if index != j {
				return false
			}
		}
	}
	for _, e := range script {
		if e.A >= 0 && e.B >= 0 {
			if _, ok := cost(a[e.A], b[e.B]); !ok {
				return false
			}
		}
	}
	return true
}

// group is a tag without its number, with how often it is deleted and inserted.
type group struct {
	tag               api.Token
	deleted, inserted int
}

// find returns the group of a tag.
func find(groups []group, x api.Token) ([]group, *group) {
	i := slices.IndexFunc(groups, func(g group) bool { return same(g.tag, x) })
	if i < 0 {
		i = len(groups)
		groups = append(groups, group{tag: x})
	}
	return groups, &groups[i]
}

// priceOf returns the price of a script.
func priceOf(a, b []api.Token, script []api.Edit) int {
	price := 0
	var groups []group
	var g *group
	for _, e := range script {
		switch {
		case e.A >= 0 && e.B >= 0:
			n, _ := cost(a[e.A], b[e.B])
			price += n
		case e.A >= 0 && isTag(a[e.A]):
			groups, g = find(groups, a[e.A])
			g.deleted++
		case e.A >= 0:
			price += weigh(a[e.A])
		case isTag(b[e.B]):
			groups, g = find(groups, b[e.B])
			g.inserted++
		default:
			price += weigh(b[e.B])
		}
	}
	for _, g := range groups {
		few, many := min(g.deleted, g.inserted), max(g.deleted, g.inserted)
		price += 2*few + 3*(many-few)
	}
	return price
}

// scripts returns all scripts from a to b.
func scripts(a, b []api.Token) [][]api.Edit {
	var found [][]api.Edit
	var extend func(script []api.Edit, i, j int)
	extend = func(script []api.Edit, i, j int) {
		if i == len(a) && j == len(b) {
			found = append(found, slices.Clone(script))
		}
		if i < len(a) && j < len(b) {
			if _, ok := cost(a[i], b[j]); ok {
				extend(append(script, pair(i, j)), i+1, j+1)
			}
		}
		if i < len(a) {
			extend(append(script, drop(i)), i+1, j)
		}
		if j < len(b) {
			extend(append(script, add(j)), i, j+1)
		}
	}
	extend(nil, 0, 0)
	return found
}

// rank returns how late an edit comes among those with the same price.
func rank(e api.Edit) int {
	switch {
	case e.A >= 0 && e.B >= 0:
		return 0
	case e.A >= 0:
		return 1
	}
	return 2
}

// preferred returns, of scripts from a to b that are not empty, the one that
// has at each step a pair, a deletion or an insertion, the first of them that
// is left.
func preferred(left [][]api.Edit) []api.Edit {
	for k := 0; ; k++ {
		best := 3
		for _, script := range left {
			if k == len(script) {
				return script
			}
			best = min(best, rank(script[k]))
		}
		left = slices.DeleteFunc(slices.Clone(left), func(script []api.Edit) bool { return rank(script[k]) != best })
	}
}

// checkAll sets every call on two lists against all of their scripts.
func checkAll(t *testing.T, a, b []api.Token) {
	t.Helper()
	least, cheapest := -1, [][]api.Edit{}
	for _, script := range scripts(a, b) {
		price := priceOf(a, b, script)
		if got, ok := distance.Price(a, b, script); !ok || got != price {
			t.Fatalf("Price(%v, %v, %v) = %d, %v, not %d", a, b, script, got, ok, price)
		}
		if least < 0 || price < least {
			least, cheapest = price, nil
		}
		if price == least {
			cheapest = append(cheapest, script)
		}
	}
	if got := distance.Distance(a, b); got != least {
		t.Fatalf("Distance(%v, %v) = %d, not %d", a, b, got, least)
	}
	if got, want := distance.Align(a, b), preferred(cheapest); !slices.Equal(got, want) {
		t.Fatalf("Align(%v, %v) = %v, not %v", a, b, got, want)
	}
}

// all returns the lists of at most n of the given elements.
func all[E any](n int, elements []E) [][]E {
	lists := [][]E{nil}
	for from := 0; n > 0; n-- {
		to := len(lists)
		for _, l := range lists[from:to] {
			for _, x := range elements {
				lists = append(lists, append(slices.Clone(l), x))
			}
		}
		from = to
	}
	return lists
}

// every are tokens of all kinds, of tags also with the same text and another
// number, of words also with another case.
var every = list(
	word("a"), word("A"), word("b"), number("1"), number("2"), blank(" "), sign("."), sign("!"), slot("n"), slot("m"),
	open(1, "b"), open(2, "b"), open(1, "B"), shut(1, "b"), empty(1, "b"), tok(0, "x", 0), tok(0, "x", 1), tok(0, "y", 0), tok(api.Text, "a", 0), tok(api.Sign+1, "x", 0), tok(-1, "", 0),
)

// P12.2 to P12.4: all scripts from and to all short lists.
func TestEveryScript(t *testing.T) {
	for _, x := range []struct {
		most     int
		elements []api.Token
	}{
		{2, every},
		{3, list(word("a"), word("A"), sign("."), open(1, "b"), open(2, "i"), tok(0, "x", 0))},
		{3, list(open(1, "b"), open(2, "b"), shut(1, "b"), blank(" "), slot("n"))},
		{4, list(word("a"), word("A"), open(1, "b"))},
		{4, list(blank(" "), open(1, "b"), open(1, "i"))},
		{4, list(number("1"), sign("."), tok(0, "x", 0))},
		{5, list(word("a"), word("b"))},
		{5, list(blank(" "), open(1, "b"))},
	} {
		lists := all(x.most, x.elements)
		for _, a := range lists {
			for _, b := range lists {
				checkAll(t, a, b)
			}
		}
	}
}

// checkEdits sets Price on two lists against isScript and priceOf, and reports
// whether the edits are a script.
func checkEdits(t *testing.T, a, b []api.Token, script []api.Edit) bool {
	t.Helper()
	want, can := 0, isScript(a, b, script)
	if can {
		want = priceOf(a, b, script)
	}
	if got, ok := distance.Price(a, b, script); got != want || ok != can {
		t.Fatalf("Price(%v, %v, %v) = %d, %v, not %d, %v", a, b, script, got, ok, want, can)
	}
	return can
}

// P12.2: all short lists of edits, scripts or not.
func TestEveryListOfEdits(t *testing.T) {
	square := func(from, to int) []api.Edit {
		var l []api.Edit
		for i := from; i <= to; i++ {
			for j := from; j <= to; j++ {
				l = append(l, pair(i, j))
			}
		}
		return l
	}
	count := map[bool]int{}
	for _, x := range []struct {
		edits  [][]api.Edit
		tokens []api.Token
	}{
		{all(3, square(-2, 2)), list(word("a"), open(1, "b"), tok(0, "x", 0))},
		{all(4, square(-1, 2)), list(word("a"), open(1, "b"))},
	} {
		lists := all(2, x.tokens)
		for _, script := range x.edits {
			for _, a := range lists {
				for _, b := range lists {
					count[checkEdits(t, a, b, script)]++
				}
			}
		}
	}
	if count[true] < 300 || count[false] < 1000000 {
		t.Errorf("scripts and other lists: %v", count)
	}
}

// P12.5: the distance is symmetric, satisfies the triangle inequality, and is 0
// exactly for lists that are Same token by token, without those of other kinds.
func TestMetric(t *testing.T) {
	for _, x := range []struct {
		most     int
		elements []api.Token
	}{
		{1, every},
		{2, list(word("a"), word("A"), word("b"), number("1"), blank(" "), sign("."), slot("n"), open(1, "b"), open(2, "b"), shut(1, "b"), empty(1, "b"), tok(0, "x", 0))},
		{3, list(word("a"), word("A"), word("b"), blank(" "), open(1, "b"))},
		{3, list(open(1, "b"), open(2, "b"), open(1, "i"), sign("."), tok(10, "x", 0))},
		{4, list(word("a"), blank(" "), open(1, "b"))},
	} {
		lists := all(x.most, x.elements)
		distances := make([][]int, len(lists))
		for i, a := range lists {
			distances[i] = make([]int, len(lists))
			for j, b := range lists {
				distances[i][j] = distance.Distance(a, b)
				known, knownB := slices.DeleteFunc(slices.Clone(a), isOther), slices.DeleteFunc(slices.Clone(b), isOther)
				if zero := slices.EqualFunc(known, knownB, same); zero != (distances[i][j] == 0) {
					t.Fatalf("Distance(%v, %v) = %d", a, b, distances[i][j])
				}
			}
		}
		for i := range lists {
			for j := range lists {
				if distances[i][j] != distances[j][i] {
					t.Fatalf("Distance(%v, %v) = %d, but %d back", lists[i], lists[j], distances[i][j], distances[j][i])
				}
				for k := range lists {
					if distances[i][k] > distances[i][j]+distances[j][k] {
						t.Fatalf("Distance(%v, %v) = %d, but %d and %d by way of %v", lists[i], lists[k], distances[i][k], distances[i][j], distances[j][k], lists[j])
					}
				}
			}
		}
	}
}

// P12.3, P12.4: what both lists have at the beginning and at the end changes no
// distance, and the beginning is paired; the end need not be.
func TestCommonEnds(t *testing.T) {
	elements := list(word("a"), word("B"), sign("."), open(1, "b"), slot("n"), tok(0, "x", 0))
	for _, ends := range all(2, every) {
		renumbered := slices.Clone(ends)
		for i := range renumbered {
			renumbered[i].ID += 7
		}
		for _, a := range all(2, elements) {
			for _, b := range all(1, elements) {
				want := distance.Distance(a, b)
				front, frontB := slices.Concat(ends, a), slices.Concat(renumbered, b)
				checkDistance(t, front, frontB, want)
				checkDistance(t, slices.Concat(a, ends), slices.Concat(b, renumbered), want)
				checkDistance(t, slices.Concat(front, ends), slices.Concat(frontB, ends), want)
				script := distance.Align(front, frontB)
				for i := range ends {
					if script[i] != pair(i, i) {
						t.Fatalf("Align(%v, %v) = %v", front, frontB, script)
					}
				}
			}
		}
	}
	a, x, b := word("a"), word("x"), open(1, "b")
	checkAlign(t, list(a, x), list(x), drop(0), pair(1, 0))
	checkAlign(t, list(x, x), list(x), pair(0, 0), drop(1))
	checkAlign(t, list(x), list(a, x, x), add(0), pair(0, 1), add(2))
	checkAlign(t, list(x, a, x), list(x, x), pair(0, 0), drop(1), pair(2, 1))
	checkAlign(t, list(b, x, b), list(x, b), drop(0), pair(1, 0), pair(2, 1))
	checkAlign(t, list(x, b, b), list(x, b), pair(0, 0), pair(1, 1), drop(2))
}

// alignAll returns the script of Align and the distance of two lists by way of
// the whole table of P12.5: a tag is deleted or inserted for 1, plus 2 for each
// tag that one list has more than the other one.
func alignAll(a, b []api.Token) ([]api.Edit, int) {
	one := func(x api.Token) int {
		if isTag(x) {
			return 1
		}
		return weigh(x)
	}
	table := make([][]int, len(a)+1)
	const never = 1 << 40
	paired := func(i, j int) int {
		if i < len(a) && j < len(b) {
			if n, ok := cost(a[i], b[j]); ok {
				return n + table[i+1][j+1]
			}
		}
		return never
	}
	deleted := func(i, j int) int {
		if i < len(a) {
			return one(a[i]) + table[i+1][j]
		}
		return never
	}
	inserted := func(i, j int) int {
		if j < len(b) {
			return one(b[j]) + table[i][j+1]
		}
		return never
	}
	for i := len(a); i >= 0; i-- {
		table[i] = make([]int, len(b)+1)
		for j := len(b); j >= 0; j-- {
			if i < len(a) || j < len(b) {
				table[i][j] = min(paired(i, j), deleted(i, j), inserted(i, j))
			}
		}
	}
	var script []api.Edit
	for i, j := 0, 0; i < len(a) || j < len(b); {
		switch table[i][j] {
		case paired(i, j):
			script = append(script, pair(i, j))
			i, j = i+1, j+1
		case deleted(i, j):
			script = append(script, drop(i))
			i++
		default:
			script = append(script, add(j))
			j++
		}
	}
	return script, priceOf(a, b, script)
}

// P12.3, P12.4: longer lists, which differ in some tokens or in all.
func TestLongerLists(t *testing.T) {
	random := rand.New(rand.NewPCG(12, 12))
	lists := func(elements []api.Token) (a, b []api.Token) {
		for range random.IntN(40) {
			a = append(a, elements[random.IntN(len(elements))])
		}
		if random.IntN(3) > 0 {
			b = slices.Clone(a)
		}
		for range random.IntN(12) {
			i := random.IntN(len(b) + 1)
			if random.IntN(2) == 0 && i < len(b) {
				b = slices.Delete(b, i, min(i+1+random.IntN(3), len(b)))
			} else {
				b = slices.Insert(b, i, elements[random.IntN(len(elements))])
			}
		}
		return a, b
	}
	for n := range 60000 {
		elements := every
		if n%2 > 0 {
			elements = list(every[random.IntN(len(every))], every[random.IntN(len(every))], every[random.IntN(len(every))])
		}
		a, b := lists(elements)
		if n%4 > 1 {
			a, b = b, a
		}
		script, want := alignAll(a, b)
		if got := distance.Distance(a, b); got != want {
			t.Fatalf("Distance(%v, %v) = %d, not %d", a, b, got, want)
		}
		if got := distance.Align(a, b); !slices.Equal(got, script) {
			t.Fatalf("Align(%v, %v) = %v, not %v", a, b, got, script)
		}
		if price, ok := distance.Price(a, b, script); !ok || price != want {
			t.Fatalf("Price(%v, %v, %v) = %d, %v, not %d", a, b, script, price, ok, want)
		}
	}
}

// R2: arguments and their spare capacity stay as they are, and results are new
// memory: changing one changes neither an argument nor another result.
func TestMemory(t *testing.T) {
	a, b := list(open(1, "b"), word("a"), tok(0, "x", 0), slot("n"), shut(1, "b")), list(word("A"), open(2, "b"), tok(0, "x", 1), number("1"))
	script := distance.Align(a, b)
	spareA, spareB, spareScript := room(a), room(b), room(script)
	calls := map[string]func(a, b []api.Token, script []api.Edit){
		"Cost":     func(a, b []api.Token, _ []api.Edit) { distance.Cost(a[1], b[0]) },
		"Price":    func(a, b []api.Token, script []api.Edit) { distance.Price(a, b, script) },
		"NoPrice":  func(a, b []api.Token, script []api.Edit) { distance.Price(a, b, script[1:]) },
		"Distance": func(a, b []api.Token, _ []api.Edit) { distance.Distance(a, b); distance.Distance(b, a[1:3]) },
		"Align":    func(a, b []api.Token, _ []api.Edit) { spoil(distance.Align(a, b), pair(77, 77)) },
		"Align1":   func(a, b []api.Token, _ []api.Edit) { spoil(distance.Align(b[1:3], a), pair(77, 77)) },
	}
	want := distance.Distance(a, b)
	for name, call := range calls {
		call(spareA, spareB, spareScript)
		if !intact(spareA, a) || !intact(spareB, b) || !intact(spareScript, script) {
			t.Fatalf("%s changed an argument: %v, %v, %v", name, spareA[:cap(spareA)], spareB[:cap(spareB)], spareScript[:cap(spareScript)])
		}
		if got := distance.Align(a, b); !slices.Equal(got, script) {
			t.Fatalf("Align behind %s = %v", name, got)
		}
		if price, ok := distance.Price(a, b, script); !ok || price != want || distance.Distance(a, b) != want {
			t.Fatalf("Price behind %s = %d, %v", name, price, ok)
		}
	}
}

// room returns a copy of l with spare capacity, which repeats l.
func room[E any](l []E) []E { return slices.Repeat(l, 3)[:len(l)] }

// intact reports whether a list that room made from l is as it was.
func intact[E comparable](made, l []E) bool {
	return slices.Equal(made[:3*len(l)], slices.Repeat(l, 3))
}

// spoil overwrites l and its spare capacity.
func spoil[E any](l []E, x E) {
	for i := range l[:cap(l)] {
		l[:cap(l)][i] = x
	}
}
