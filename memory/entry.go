package memory

import (
	"cmp"
	"strings"

	"bitext/api"
	"bitext/class"
	"bitext/item"
	"bitext/notation"
)

// Validate returns the first error of e, or OK if e is valid.
func Validate(e api.Entry) api.Errno {
	if err := cmp.Or(item.Validate(e.Source), item.Validate(e.Target)); err != api.OK {
		return err
	}
	if len(e.Source) == 0 || !isCanonical(e.Source, e.Target) {
		return api.ErrArgument
	}
	if err := cmp.Or(contextError(e.Previous), contextError(e.Next)); err != api.OK {
		return err
	}
	if !isNameOrEmpty(e.Author) || !isNameOrEmpty(e.Project) {
		return api.ErrName
	}
	if !isTime(e.Created) || !isOrigin(e.Origin) {
		return api.ErrArgument
	}
	return api.OK
}

// isCanonical reports whether the tags of a pair are numbered 1, 2, 3 and so on.
func isCanonical(source, target []api.Item) bool {
	s, t := item.Canonical(source, target)
	return item.Same(s, source) && item.Same(t, target)
}

// contextError returns the error of a context that is not the notation of a
// fragment.
func contextError(context string) api.Errno {
	_, _, err := notation.Parse(context)
	return err
}

func isNameOrEmpty(s string) bool { return s == "" || class.IsName(s) }

func isTime(t int) bool { return 0 <= t && t <= api.MaxTime }

func isOrigin(o int) bool {
	return o == api.Human || o == api.Aligned || o == api.Machine
}

// Key returns the source and the contexts of a valid entry as one string. As a
// notation has no byte 10, others never give the same key.
func Key(e api.Entry) string {
	if Validate(e) != api.OK {
		return ""
	}
	return notationOf(e.Source) + "\n" + e.Previous + "\n" + e.Next
}

// notationOf returns the notation of f, or the empty string if f is not valid.
func notationOf(f []api.Item) string {
	s, _ := notation.Format(f)
	return s
}

// Compare returns -1, 0 or 1 if a is less than b, equal to it or greater.
func Compare(a, b api.Entry) int {
	return cmp.Or(strings.Compare(Key(a), Key(b)), compareVersions(a, b))
}

// compareVersions compares two entries of one key. Of those of one time, the one
// with the lesser number of its origin is greater: a person beats a program.
func compareVersions(a, b api.Entry) int {
	return cmp.Or(
		cmp.Compare(a.Created, b.Created),
		cmp.Compare(b.Origin, a.Origin),
		strings.Compare(a.Author, b.Author),
		strings.Compare(a.Project, b.Project),
		strings.Compare(notationOf(a.Target), notationOf(b.Target)),
	)
}
