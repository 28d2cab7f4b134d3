package distance

import (
	"bitext/api"
	"bitext/token"
)

// none is the index of an edit that treats no token of that list.
const none = -1

// What tags cost. A move is a deletion and an insertion, so it costs 2 steps; a
// tag that is missing or added is one step and a surplus, so it costs 3.
const (
	tagStep    = 1
	tagSurplus = 2
)

// caseCost is what a pair of words costs that differ in their case alone.
const caseCost = 1

// part is a token of a list with its index there and with what is asked of it
// again and again: its key, its weight and the price of a step.
type part struct {
	api.Token
	index, weight, step int
	key                 string
}

func newPart(t api.Token, index int) part {
	return part{Token: t, index: index, weight: token.Weight(t), step: step(t), key: token.Key(t)}
}

func newParts(l []api.Token) []part {
	parts := make([]part, len(l))
	for i, t := range l {
		parts[i] = newPart(t, i)
	}
	return parts
}

// cost returns what a pair of x and y costs, and whether they can be paired.
func (x *part) cost(y *part) (int, bool) {
	switch {
	case token.Same(x.Token, y.Token):
		return 0, true
	case x.Kind != y.Kind || x.weight == 0 || isTag(x.Token):
		return 0, false
	case x.Kind == api.Word && x.key == y.key:
		return caseCost, true
	}
	return x.weight, true
}

// step returns what it costs to delete or insert t, without the surplus.
func step(t api.Token) int {
	if isTag(t) {
		return tagStep
	}
	return token.Weight(t)
}

func isTag(t api.Token) bool {
	return t.Kind == api.Open || t.Kind == api.Close || t.Kind == api.Empty
}

// tag is what tags have in common that are moved or missing together.
type tag struct {
	kind int
	text string
}

// surplus returns what every script from a to b pays for the tags that one list
// has more often than the other one. As only equal tags are paired, the script
// deletes and inserts a tag with the same difference.
func surplus(a, b []api.Token) int {
	more := map[tag]int{}
	count(more, a, 1)
	count(more, b, -1)
	total := 0
	for _, n := range more {
		total += tagSurplus * max(n, -n)
	}
	return total
}

// count adds n for each tag of l.
func count(more map[tag]int, l []api.Token, n int) {
	for _, t := range l {
		if isTag(t) {
			more[tag{t.Kind, t.Text}] += n
		}
	}
}
