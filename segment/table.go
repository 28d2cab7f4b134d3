package segment

import (
	"slices"

	"bitext/api"
	"bitext/class"
	"bitext/pattern"
)

// Validate returns the first error of a list of tables.
func Validate(tables []api.Table) api.Errno {
	if len(tables) > api.MaxTables {
		return api.ErrLimit
	}
	for i, table := range tables {
		if e := validateTable(tables[:i], table); e != api.OK {
			return e
		}
	}
	return api.OK
}

// validateTable returns the first error of a table behind some earlier ones.
func validateTable(earlier []api.Table, table api.Table) api.Errno {
	if !class.IsName(table.Name) || table.Parent != "" && !class.IsName(table.Parent) {
		return api.ErrName
	}
	if _, ok := find(earlier, table.Name); ok {
		return api.ErrDuplicate
	}
	if len(table.Rules) > api.MaxRules {
		return api.ErrLimit
	}
	for _, rule := range table.Rules {
		if e := validateRule(rule); e != api.OK {
			return e
		}
	}
	return api.OK
}

// validateRule returns the first error of the patterns of a rule.
func validateRule(rule api.Rule) api.Errno {
	if e := pattern.Validate(rule.Before); e != api.OK {
		return e
	}
	return pattern.Validate(rule.After)
}

// find returns the table with a name, if there is one.
func find(tables []api.Table, name string) (table api.Table, ok bool) {
	for _, t := range tables {
		if t.Name == name {
			return t, true
		}
	}
	return api.Table{}, false
}

// Resolve returns the rules of a table, followed by those of its parents from
// the next one on. As it counts the tables on the way, a cycle ends at the limit.
func Resolve(tables []api.Table, name string) ([]api.Rule, api.Errno) {
	if e := Validate(tables); e != api.OK {
		return nil, e
	}
	var rules []api.Rule
	for depth := 1; ; depth++ {
		table, ok := find(tables, name)
		if !ok {
			return nil, api.ErrName
		}
		if depth > api.MaxDepth {
			return nil, api.ErrLimit
		}
		rules = append(rules, copied(table.Rules)...)
		if table.Parent == "" {
			return rules, api.OK
		}
		name = table.Parent
	}
}

// copied returns rules with patterns of their own.
func copied(rules []api.Rule) []api.Rule {
	var copies []api.Rule
	for _, r := range rules {
		r.Before, r.After = slices.Clone(r.Before), slices.Clone(r.After)
		copies = append(copies, r)
	}
	return copies
}
