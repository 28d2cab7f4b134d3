package item_test

import (
	"cmp"
	"math"
	"regexp"
	"slices"
	"strings"
	"testing"

	"bitext/api"
	"bitext/item"
)

// The tests of this file set the package against plain statements of the
// promises, on all short fragments of these items.
var alphabet = list(
	text("a"), text("bc"), text(""), other(api.Text, "d", 2),
	open(1, "b"), open(1, "b x"), open(2, "i"), shut(1, "b"), shut(2, "i"), empty(2, "b"), empty(api.MaxID+1, "i"), open(2, "i/"),
	slot("n"), slot("m"), other(api.Slot, "n", 1), other(0, "b", 1), other(9, "", 2),
)

// few are the items of alphabet with which pairs of fragments are formed.
var few = list(text("a"), text(""), open(1, "b"), open(2, "b"), shut(1, "b"), shut(2, "b"), empty(1, "b"), empty(2, "i"), slot("n"), slot("m"), other(9, "b", 1))

// all returns the fragments of at most n of the given items.
func all(n int, items []api.Item) [][]api.Item {
	fragments := [][]api.Item{nil}
	for from := 0; n > 0; n-- {
		to := len(fragments)
		for _, f := range fragments[from:to] {
			for _, x := range items {
				fragments = append(fragments, append(slices.Clone(f), x))
			}
		}
		from = to
	}
	return fragments
}

func isTag(x api.Item) bool { return x.Kind == api.Open || x.Kind == api.Close || x.Kind == api.Empty }

// without returns f without the items that are bad.
func without(f []api.Item, bad func(api.Item) bool) []api.Item {
	return slices.DeleteFunc(slices.Clone(f), bad)
}

func tagsOf(f []api.Item) []api.Item {
	return without(f, func(x api.Item) bool { return !isTag(x) })
}

// contentForm is what a content looks like, but for its last byte, its length and
// four bytes that it must not contain.
var contentForm = regexp.MustCompile(`^[a-z][a-z0-9-]{0,23}( [ -~]+)?$`)

// isContent states what a content is with a regular expression.
func isContent(s string) bool {
	return contentForm.MatchString(s) && len(s) <= 64 && !strings.ContainsAny(s, "<>{}") && s[len(s)-1] != '/'
}

// validate states P3.1 item by item, with the rules in the order of the chapter.
func validate(f []api.Item) api.Errno {
	for i, x := range f {
		earlier := func(kind int) int {
			return slices.IndexFunc(f[:i], func(y api.Item) bool { return y.Kind == kind && y.ID == x.ID })
		}
		numbered := x.ID >= 1 && x.ID <= 999
		switch x.Kind {
		case api.Text:
			if x.Text == "" || x.ID != 0 || i > 0 && f[i-1].Kind == api.Text {
				return api.ErrArgument
			}
		case api.Slot:
			if !isContent(x.Text) || strings.Contains(x.Text, " ") || x.ID != 0 {
				return api.ErrArgument
			}
		case api.Open, api.Empty:
			if !isContent(x.Text) || !numbered {
				return api.ErrArgument
			}
			if earlier(api.Open) >= 0 || earlier(api.Close) >= 0 || earlier(api.Empty) >= 0 {
				return api.ErrTag
			}
		case api.Close:
			if !isContent(x.Text) || strings.Contains(x.Text, " ") || !numbered {
				return api.ErrArgument
			}
			if earlier(api.Close) >= 0 || earlier(api.Empty) >= 0 {
				return api.ErrTag
			}
			if o := earlier(api.Open); o >= 0 && strings.Split(f[o].Text, " ")[0] != x.Text {
				return api.ErrTag
			}
		default:
			return api.ErrArgument
		}
	}
	return api.OK
}

// expand returns one item for every position of f.
func expand(f []api.Item) []api.Item {
	var atoms []api.Item
	for _, x := range f {
		if x.Kind != api.Text {
			atoms = append(atoms, x)
			continue
		}
		for i := range len(x.Text) {
			atoms = append(atoms, other(api.Text, x.Text[i:i+1], x.ID))
		}
	}
	return atoms
}

// normalize joins two neighbours until there are none left to join.
func normalize(f []api.Item) []api.Item {
	f = without(f, func(x api.Item) bool { return x.Kind == api.Text && x.Text == "" })
	for i := range f {
		if f[i].Kind == api.Text {
			f[i].ID = 0
		}
	}
	for i := 0; i+1 < len(f); {
		if f[i].Kind == api.Text && f[i+1].Kind == api.Text {
			f[i].Text += f[i+1].Text
			f = slices.Delete(f, i+1, i+2)
		} else {
			i++
		}
	}
	return f
}

// shape removes pairs of an Open and its Close that are neighbours until there
// are none left; what remains must be Closes before Opens.
func shape(f []api.Item) (closes, opens []int, ok bool) {
	tags := without(tagsOf(f), func(x api.Item) bool { return x.Kind == api.Empty })
	for i := 0; i+1 < len(tags); {
		if tags[i].Kind == api.Open && tags[i+1].Kind == api.Close && tags[i].ID == tags[i+1].ID {
			tags = slices.Delete(tags, i, i+2)
			i = 0
		} else {
			i++
		}
	}
	for _, x := range tags {
		if x.Kind == api.Open {
			opens = append(opens, x.ID)
		} else if len(opens) > 0 {
			return nil, nil, false
		} else {
			closes = append(closes, x.ID)
		}
	}
	return closes, opens, true
}

func slots(f []api.Item) []string {
	var names []string
	for _, x := range f {
		if x.Kind == api.Slot {
			at, _ := slices.BinarySearch(names, x.Text)
			names = slices.Insert(names, at, x.Text)
		}
	}
	return names
}

func compatible(source, target []api.Item) bool {
	sorted := func(f []api.Item) []api.Item {
		return slices.SortedFunc(slices.Values(tagsOf(f)), func(a, b api.Item) int {
			return cmp.Or(cmp.Compare(a.Kind, b.Kind), cmp.Compare(a.Text, b.Text), cmp.Compare(a.ID, b.ID))
		})
	}
	closes, opens, ok := shape(source)
	otherCloses, otherOpens, otherOK := shape(target)
	return ok && otherOK && slices.Equal(closes, otherCloses) && slices.Equal(opens, otherOpens) && slices.Equal(sorted(source), sorted(target)) && slices.Equal(slots(source), slots(target))
}

func numbers(f []api.Item) []int {
	var found []int
	for _, x := range tagsOf(f) {
		if !slices.Contains(found, x.ID) {
			found = append(found, x.ID)
		}
	}
	return found
}

func rename(f []api.Item, from, to []int) []api.Item {
	var renamed []api.Item
	for _, x := range f {
		if !isTag(x) {
			renamed = append(renamed, x)
		} else if i := slices.Index(from, x.ID); i >= 0 && i < len(to) {
			renamed = append(renamed, other(x.Kind, x.Text, to[i]))
		}
	}
	return normalize(renamed)
}

// counting returns the numbers from 1 to n.
func counting(n int) []int {
	numbers := make([]int, n)
	for i := range numbers {
		numbers[i] = i + 1
	}
	return numbers
}

func pair(a, b []api.Item) (from, to []int) {
	first := func(f []api.Item, n int) api.Item {
		return f[slices.IndexFunc(f, func(x api.Item) bool { return isTag(x) && x.ID == n })]
	}
	for _, n := range numbers(a) {
		for _, m := range numbers(b) {
			x, y := first(a, n), first(b, m)
			if !slices.Contains(to, m) && x.Kind == y.Kind && x.Text == y.Text {
				from, to = append(from, n), append(to, m)
				break
			}
		}
	}
	return from, to
}

// Fragments: all strings of at most four bytes near the borders of a content,
// behind nothing and behind a name with and without its space; every byte
// anywhere; and every length.
func TestIsContentEveryString(t *testing.T) {
	check := func(s string) {
		if got := item.IsContent(s); got != isContent(s) {
			t.Errorf("IsContent(%q) = %v", s, got)
		}
	}
	border := "\x1f !/<=>09AZ_`az{|}~\x7f\xff-"
	var grow func(s string, n int)
	grow = func(s string, n int) {
		check(s)
		for i := 0; n > 0 && i < len(border); i++ {
			grow(s+border[i:i+1], n-1)
		}
	}
	grow("", 4)
	grow("h1", 2)
	grow("a b", 2)
	for b := range 256 {
		c := string([]byte{byte(b)})
		for _, s := range []string{c, "a" + c, "a" + c + "b", "a" + c + " b", "a " + c, "a " + c + "b", "a b" + c, c + "a", c + "a b"} {
			check(s)
		}
	}
	for n := range 3 * api.MaxTag {
		check(strings.Repeat("n", n))
		check("a " + strings.Repeat("x", n))
		check("a " + strings.Repeat("/", n) + "x")
		check(strings.Repeat("n", n) + " x")
	}
}

// P3.1 to P3.5 and P3.7: the calls on one fragment.
func TestEveryFragment(t *testing.T) {
	for _, f := range all(4, alphabet) {
		if got, want := item.Validate(f), validate(f); got != want {
			t.Fatalf("Validate(%v) = %d, not %d", f, got, want)
		}
		if got, want := item.Length(f), len(expand(f)); got != want {
			t.Fatalf("Length(%v) = %d, not %d", f, got, want)
		}
		if got, want := item.Normalize(f), normalize(f); !slices.Equal(got, want) {
			t.Fatalf("Normalize(%v) = %v, not %v", f, got, want)
		}
		plain := strings.Builder{}
		for _, x := range f {
			plain.WriteString(map[int]string{api.Text: x.Text, api.Slot: "\xff"}[x.Kind])
		}
		if got := item.Plain(f); got != plain.String() {
			t.Fatalf("Plain(%v) = %q", f, got)
		}
		if got, want := item.Tags(f), tagsOf(f); !slices.Equal(got, want) {
			t.Fatalf("Tags(%v) = %v, not %v", f, got, want)
		}
		if got, want := item.Slots(f), slots(f); !slices.Equal(got, want) {
			t.Fatalf("Slots(%v) = %v, not %v", f, got, want)
		}
		closes, opens, ok := item.Shape(f)
		wantCloses, wantOpens, wantOK := shape(f)
		if ok != wantOK || !slices.Equal(closes, wantCloses) || !slices.Equal(opens, wantOpens) {
			t.Fatalf("Shape(%v) = %v, %v, %v", f, closes, opens, ok)
		}
		if got, want := item.Numbers(f), numbers(f); !slices.Equal(got, want) {
			t.Fatalf("Numbers(%v) = %v, not %v", f, got, want)
		}
		if got, want := item.Renumber(f), rename(f, numbers(f), counting(4)); !slices.Equal(got, want) {
			t.Fatalf("Renumber(%v) = %v, not %v", f, got, want)
		}
	}
}

// P3.3: every range of every fragment, and ranges just outside. The atoms of
// neighbouring Text items would look like one, so the items are counted, too.
func TestSliceEveryRange(t *testing.T) {
	for _, f := range all(3, alphabet) {
		atoms := expand(f)
		for from := -1; from <= len(atoms)+1; from++ {
			for to := -1; to <= len(atoms)+1; to++ {
				got, ok := item.Slice(f, from, to)
				if want := 0 <= from && from <= to && to <= len(atoms); ok != want || !ok && len(got) > 0 {
					t.Fatalf("Slice(%v, %d, %d) = %v, %v", f, from, to, got, ok)
				}
				if ok && (!slices.Equal(expand(got), atoms[from:to]) || len(got) != touched(f, from, to)) {
					t.Fatalf("Slice(%v, %d, %d) = %v", f, from, to, got)
				}
			}
		}
	}
}

// touched counts the items of f with a position in the range.
func touched(f []api.Item, from, to int) int {
	count := 0
	for i := range f {
		first, end := len(expand(f[:i])), len(expand(f[:i+1]))
		for at := first; at < end; at++ {
			if from <= at && at < to {
				count++
				break
			}
		}
	}
	return count
}

// P3.2 and P3.6 to P3.8: the calls on two fragments.
func TestEveryPairOfFragments(t *testing.T) {
	short, long := all(2, few), all(3, few)
	for _, a := range short {
		for _, b := range long {
			both := slices.Concat(a, b)
			if got, want := item.Concat(a, b), normalize(both); !slices.Equal(got, want) {
				t.Fatalf("Concat(%v, %v) = %v, not %v", a, b, got, want)
			}
			if got, want := item.Same(a, b), slices.Equal(a, b); got != want {
				t.Fatalf("Same(%v, %v) = %v", a, b, got)
			}
			if got, want := item.Compatible(a, b), compatible(a, b); got != want {
				t.Fatalf("Compatible(%v, %v) = %v", a, b, got)
			}
			s, u := item.Canonical(a, b)
			from, to := numbers(a), counting(5)
			for _, n := range numbers(b) {
				if !slices.Contains(from, n) {
					from = append(from, n)
				}
			}
			if !slices.Equal(s, rename(a, from, to)) || !slices.Equal(u, rename(b, from, to)) {
				t.Fatalf("Canonical(%v, %v) = %v, %v", a, b, s, u)
			}
			gotFrom, gotTo := item.Pair(a, b)
			wantFrom, wantTo := pair(a, b)
			if !slices.Equal(gotFrom, wantFrom) || !slices.Equal(gotTo, wantTo) {
				t.Fatalf("Pair(%v, %v) = %v, %v", a, b, gotFrom, gotTo)
			}
		}
	}
}

// P3.6 and P3.8 on tags alone, where more of them meet.
func TestEveryPairOfTags(t *testing.T) {
	fragments := all(4, list(open(1, "b"), shut(1, "b"), open(2, "b"), shut(2, "b")))
	for _, a := range fragments {
		for _, b := range fragments {
			if got, want := item.Compatible(a, b), compatible(a, b); got != want {
				t.Fatalf("Compatible(%v, %v) = %v", a, b, got)
			}
			from, to := item.Pair(a, b)
			wantFrom, wantTo := pair(a, b)
			if !slices.Equal(from, wantFrom) || !slices.Equal(to, wantTo) {
				t.Fatalf("Pair(%v, %v) = %v, %v", a, b, from, to)
			}
		}
	}
}

// P3.7: Rename with all short lists of numbers.
func TestRenameEveryList(t *testing.T) {
	var lists [][]int
	for _, f := range all(3, list(empty(0, ""), empty(1, ""), empty(2, ""), empty(math.MinInt, ""))) {
		var l []int
		for _, x := range f {
			l = append(l, x.ID)
		}
		lists = append(lists, l)
	}
	for _, f := range [][]api.Item{
		nil, list(text("a"), empty(1, "b"), text("c"), empty(2, "d"), text("e")), list(open(0, "b"), open(1, "b"), shut(1, "b"), shut(0, "b"), slot("n")), list(other(api.Text, "a", 1), other(9, "b", 2), other(api.Slot, "n", 0), empty(math.MinInt, "c")),
	} {
		for _, from := range lists {
			for _, to := range lists {
				if got, want := item.Rename(f, from, to), rename(f, from, to); !slices.Equal(got, want) {
					t.Fatalf("Rename(%v, %v, %v) = %v, not %v", f, from, to, got, want)
				}
			}
		}
	}
}

// valids are the fragments of at most n items that are valid.
func valids(n int, items []api.Item) [][]api.Item {
	return slices.DeleteFunc(all(n, items), func(f []api.Item) bool { return item.Validate(f) != api.OK })
}

// P3.9: slices of valid fragments are valid, and neighbours give them again.
func TestSlicesOfValid(t *testing.T) {
	fragments := valids(5, list(text("abc"), open(1, "b x"), shut(1, "b"), open(2, "i"), shut(2, "i"), empty(3, "br"), slot("n")))
	if len(fragments) < 1000 {
		t.Fatalf("only %d valid fragments", len(fragments))
	}
	for _, f := range fragments {
		length := item.Length(f)
		for from := range length + 1 {
			for to := from; to <= length; to++ {
				part, ok := item.Slice(f, from, to)
				if !ok || item.Validate(part) != api.OK || item.Length(part) != to-from {
					t.Fatalf("Slice(%v, %d, %d) = %v, %v", f, from, to, part, ok)
				}
			}
			left, _ := item.Slice(f, 0, from)
			right, _ := item.Slice(f, from, length)
			if got := item.Concat(left, right); !item.Same(got, f) {
				t.Fatalf("Concat of the slices of %v at %d: %v", f, from, got)
			}
			for to := from; to <= length; to++ {
				middle, _ := item.Slice(f, from, to)
				rest, _ := item.Slice(f, to, length)
				if got := item.Concat(item.Concat(left, middle), rest); !item.Same(got, f) {
					t.Fatalf("Concat of the slices of %v at %d and %d: %v", f, from, to, got)
				}
			}
		}
	}
}

// orders returns the items of f in every order, each with text in between.
func orders(f []api.Item) [][]api.Item {
	if len(f) == 0 {
		return [][]api.Item{list(text("x"))}
	}
	var result [][]api.Item
	for i, first := range f {
		for _, rest := range orders(slices.Delete(slices.Clone(f), i, i+1)) {
			result = append(result, append(list(first), rest...))
		}
	}
	return result
}

// P3.9: fragments that are compatible with neighbouring slices are so together.
func TestCompatibleWithSlices(t *testing.T) {
	targets := func(source []api.Item) [][]api.Item {
		return slices.DeleteFunc(orders(source), func(target []api.Item) bool { return !item.Compatible(source, target) })
	}
	tried, reordered := 0, 0
	for _, f := range valids(4, list(text("a"), open(1, "b"), shut(1, "b"), open(2, "b"), shut(2, "b"), empty(3, "br"), slot("n"), slot("m"))) {
		if _, _, ok := item.Shape(f); !ok {
			continue
		}
		for at := range item.Length(f) + 1 {
			left, _ := item.Slice(f, 0, at)
			right, _ := item.Slice(f, at, item.Length(f))
			for _, a := range targets(left) {
				for _, b := range targets(right) {
					target := item.Concat(a, b)
					if !item.Compatible(item.Concat(left, right), target) {
						t.Fatalf("%v and %v at %d", f, target, at)
					}
					tried++
					if !slices.Equal(item.Tags(f), item.Tags(target)) {
						reordered++
					}
				}
			}
		}
	}
	if tried < 1000 || reordered < 100 {
		t.Errorf("only %d pairs, %d of them with tags in another order", tried, reordered)
	}
}

// R2: arguments and their spare capacity stay as they are, and results are new
// memory: changing one changes neither an argument nor another result.
func TestMemory(t *testing.T) {
	f := list(open(3, "b"), text("a"), text("b"), slot("n"), slot("m"), shut(3, "b"), shut(4, "i"), open(5, "i"), empty(9, "br"))
	from, to := []int{9, 3, 4, 5}, []int{1, 2, 3, 4}
	spare, spareFrom, spareTo := room(f), room(from), room(to)
	spoilItems := func(lists ...[]api.Item) {
		for _, l := range lists {
			spoil(l, other(77, "spoilt", 77))
		}
	}
	calls := map[string]func(f []api.Item, from, to []int){
		"Validate":   func(f []api.Item, _, _ []int) { item.Validate(f) },
		"Length":     func(f []api.Item, _, _ []int) { item.Length(f) },
		"Normalize":  func(f []api.Item, _, _ []int) { spoilItems(item.Normalize(f)) },
		"Normalize1": func(f []api.Item, _, _ []int) { spoilItems(item.Normalize(f[3:])) },
		"Concat":     func(f []api.Item, _, _ []int) { spoilItems(item.Concat(f[:4], f[:6])) },
		"Concat1":    func(f []api.Item, _, _ []int) { spoilItems(item.Concat(f[3:4], nil), item.Concat(nil, f[3:4])) },
		"Slice": func(f []api.Item, _, _ []int) {
			part, _ := item.Slice(f, 0, item.Length(f))
			spoilItems(part)
		},
		"Plain": func(f []api.Item, _, _ []int) { item.Plain(f) },
		"Tags":  func(f []api.Item, _, _ []int) { spoilItems(item.Tags(f), item.Tags(f[5:])) },
		"Slots": func(f []api.Item, _, _ []int) { spoil(item.Slots(f), "spoilt") },
		"Shape": func(f []api.Item, _, _ []int) {
			closes, opens, _ := item.Shape(f)
			spoil(closes, 77)
			if !slices.Equal(opens, []int{5}) {
				t.Errorf("opens %v", opens)
			}
		},
		"Compatible": func(f []api.Item, _, _ []int) { item.Compatible(f, f) },
		"Numbers":    func(f []api.Item, _, _ []int) { spoil(item.Numbers(f), 77) },
		"Rename":     func(f []api.Item, from, to []int) { spoilItems(item.Rename(f, from, to)) },
		"Renumber":   func(f []api.Item, _, _ []int) { spoilItems(item.Renumber(f)) },
		"Canonical": func(f []api.Item, _, _ []int) {
			s, u := item.Canonical(f, f)
			want := slices.Clone(u)
			spoilItems(s)
			if !slices.Equal(u, want) {
				t.Errorf("t %v", u)
			}
		},
		"Pair": func(f []api.Item, _, _ []int) {
			from, to := item.Pair(f, f)
			spoil(from, 77)
			if !slices.Equal(to, []int{3, 4, 5, 9}) {
				t.Errorf("to %v", to)
			}
		},
		"Same": func(f []api.Item, _, _ []int) { item.Same(f, f) },
	}
	for name, call := range calls {
		call(spare, spareFrom, spareTo)
		if !intact(spare, f) || !intact(spareFrom, from) || !intact(spareTo, to) {
			t.Fatalf("%s changed an argument: %v, %v, %v", name, spare[:cap(spare)], spareFrom[:cap(spareFrom)], spareTo[:cap(spareTo)])
		}
	}
}

// room returns a copy of l with spare capacity, which repeats l.
func room[E any](l []E) []E { return slices.Repeat(l, 3)[:len(l)] }

// intact reports whether a list that room made from l is as it was.
func intact[E comparable](made, l []E) bool {
	return slices.Equal(made[:3*len(l)], slices.Repeat(l, 3))
}

// spoil overwrites l and its spare capacity.
func spoil[E any](l []E, x E) {
	for i := range l[:cap(l)] {
		l[:cap(l)][i] = x
	}
}
