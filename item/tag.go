package item

import (
	"maps"
	"slices"

	"bitext/api"
)

// isTag reports whether an item is an inline tag.
func isTag(item api.Item) bool {
	return item.Kind == api.Open || item.Kind == api.Close || item.Kind == api.Empty
}

// Tags returns the tags of f, in order.
func Tags(f []api.Item) []api.Item {
	var tags []api.Item
	for _, item := range f {
		if isTag(item) {
			tags = append(tags, item)
		}
	}
	return tags
}

// Shape returns the numbers that f closes without having opened them, and those
// that it opens without closing them. It fails if tags cross each other.
func Shape(f []api.Item) (closes, opens []int, ok bool) {
	for _, item := range f {
		switch item.Kind {
		case api.Open:
			opens = append(opens, item.ID)
		case api.Close:
			top := len(opens) - 1
			if top < 0 {
				closes = append(closes, item.ID)
			} else if opens[top] == item.ID {
				opens = opens[:top]
			} else {
				return nil, nil, false
			}
		}
	}
	return closes, opens, true
}

// sameShape reports whether the shapes of a and b are ok and equal.
func sameShape(a, b []api.Item) bool {
	closesA, opensA, okA := Shape(a)
	closesB, opensB, okB := Shape(b)
	return okA && okB && slices.Equal(closesA, closesB) && slices.Equal(opensA, opensB)
}

// sameTags reports whether a and b have the same tags, up to their order.
func sameTags(a, b []api.Item) bool { return maps.Equal(tally(a), tally(b)) }

// tally counts how often each tag occurs in f.
func tally(f []api.Item) map[api.Item]int {
	counts := map[api.Item]int{}
	for _, tag := range Tags(f) {
		counts[tag]++
	}
	return counts
}

// Numbers returns the numbers of the tags of f, each once, in the order of
// their first occurrence.
func Numbers(f []api.Item) []int {
	var numbers []int
	for _, tag := range firstTags(f) {
		numbers = append(numbers, tag.ID)
	}
	return numbers
}

// firstTags returns the first tag of every number of f, in order.
func firstTags(f []api.Item) []api.Item {
	var firsts []api.Item
	seen := map[int]bool{}
	for _, tag := range Tags(f) {
		if !seen[tag.ID] {
			seen[tag.ID] = true
			firsts = append(firsts, tag)
		}
	}
	return firsts
}

// Rename returns f, normalized, with the number to[i] for a tag with the number
// from[i], and without the tags that get no number.
func Rename(f []api.Item, from, to []int) []api.Item {
	names := map[int]int{}
	for i := range min(len(from), len(to)) {
		if _, ok := names[from[i]]; !ok {
			names[from[i]] = to[i]
		}
	}
	var renamed []api.Item
	for _, item := range f {
		if isTag(item) {
			number, ok := names[item.ID]
			if !ok {
				continue
			}
			item.ID = number
		}
		renamed = append(renamed, item)
	}
	return Normalize(renamed)
}

// Renumber returns f, normalized, with the numbers 1, 2, 3 and so on.
func Renumber(f []api.Item) []api.Item {
	numbers := Numbers(f)
	return Rename(f, numbers, upTo(len(numbers)))
}

// Canonical renumbers the tags of a pair alike, those of source first.
func Canonical(source, target []api.Item) (s, t []api.Item) {
	numbers := Numbers(slices.Concat(source, target))
	to := upTo(len(numbers))
	return Rename(source, numbers, to), Rename(target, numbers, to)
}

// upTo returns the numbers from 1 to n.
func upTo(n int) []int {
	var numbers []int
	for i := range n {
		numbers = append(numbers, i+1)
	}
	return numbers
}

// Pair matches the numbers of a with numbers of b whose first tags have the same
// kind and text; each number of b serves once, the first ones first.
func Pair(a, b []api.Item) (from, to []int) {
	partners := map[api.Item][]int{}
	for _, tag := range firstTags(b) {
		key := withoutNumber(tag)
		partners[key] = append(partners[key], tag.ID)
	}
	for _, tag := range firstTags(a) {
		key := withoutNumber(tag)
		if free := partners[key]; len(free) > 0 {
			from, to = append(from, tag.ID), append(to, free[0])
			partners[key] = free[1:]
		}
	}
	return from, to
}

// withoutNumber returns what two tags that Pair matches have in common.
func withoutNumber(tag api.Item) api.Item {
	return api.Item{Kind: tag.Kind, Text: tag.Text}
}
