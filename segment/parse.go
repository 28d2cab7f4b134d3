package segment

import (
	"strings"

	"bitext/api"
	"bitext/class"
	"bitext/pattern"
)

// Parse returns the tables of a rule file, or the number of the first line that
// is wrong, with its error.
func Parse(text string) (tables []api.Table, line int, e api.Errno) {
	if len(text) > api.MaxDocument {
		return nil, 0, api.ErrLimit
	}
	for i, s := range strings.Split(text, "\n") {
		words := wordsOf(s)
		if len(words) == 0 || words[0][0] == '#' {
			continue
		}
		if tables, e = addLine(tables, words); e != api.OK {
			return nil, i + 1, e
		}
	}
	return tables, 0, api.OK
}

// wordsOf returns the words of a line. Only the byte 32 separates them, so the
// other bytes of class Space are bytes of words, where nothing allows them.
func wordsOf(line string) []string {
	return strings.FieldsFunc(line, func(r rune) bool { return r == ' ' })
}

// addLine adds what the words of a line describe to the tables so far.
func addLine(tables []api.Table, words []string) ([]api.Table, api.Errno) {
	switch words[0] {
	case "table":
		if len(words) == 2 || len(words) == 3 {
			return addTable(tables, words[1:])
		}
	case "break", "keep":
		if len(words) == 3 {
			return addRule(tables, words[0] == "break", words[1], words[2])
		}
	}
	return nil, api.ErrSyntax
}

// addTable adds a table with a name and perhaps the name of a parent.
func addTable(tables []api.Table, names []string) ([]api.Table, api.Errno) {
	for _, name := range names {
		if !class.IsName(name) {
			return nil, api.ErrName
		}
	}
	if _, ok := find(tables, names[0]); ok {
		return nil, api.ErrDuplicate
	}
	if len(tables) == api.MaxTables {
		return nil, api.ErrLimit
	}
	table := api.Table{Name: names[0]}
	if len(names) == 2 {
		table.Parent = names[1]
	}
	return append(tables, table), api.OK
}

// addRule adds a rule with its patterns as they are written to the last table.
func addRule(tables []api.Table, breaks bool, before, after string) ([]api.Table, api.Errno) {
	if len(tables) == 0 {
		return nil, api.ErrState
	}
	rule := api.Rule{Break: breaks}
	var e api.Errno
	if rule.Before, e = parsePattern(before); e != api.OK {
		return nil, e
	}
	if rule.After, e = parsePattern(after); e != api.OK {
		return nil, e
	}
	last := &tables[len(tables)-1]
	if len(last.Rules) == api.MaxRules {
		return nil, api.ErrLimit
	}
	last.Rules = append(last.Rules, rule)
	return tables, api.OK
}

// parsePattern returns the pattern that a word describes. A word is never empty,
// so the empty pattern has a word of its own.
func parsePattern(word string) ([]api.Atom, api.Errno) {
	if word == "-" {
		return nil, api.OK
	}
	p, _, e := pattern.Parse(word)
	return p, e
}
