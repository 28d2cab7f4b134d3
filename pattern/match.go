package pattern

import "bitext/api"

// Match reports whether p matches s.
func Match(p []api.Atom, s string) bool {
	r := begin(p)
	for at := range len(s) {
		if !r.read(s[at]) {
			return false
		}
	}
	return r.whole()
}

// Prefix reports whether p matches at least one prefix of s.
func Prefix(p []api.Atom, s string) bool {
	r := begin(p)
	for at := 0; !r.whole(); at++ {
		if at == len(s) || !r.read(s[at]) {
			return false
		}
	}
	return true
}

// Suffix reports whether p matches at least one suffix of s. It reads s from
// the end, as the reversed pattern matches the suffixes that are read so.
func Suffix(p []api.Atom, s string) bool {
	r := begin(Reverse(p))
	for at := len(s); !r.whole(); at-- {
		if at == 0 || !r.read(s[at-1]) {
			return false
		}
	}
	return true
}

// Longest returns the length of the longest prefix of s that p matches, or -1.
func Longest(p []api.Atom, s string) int {
	longest := -1
	r := begin(p)
	for at := 0; ; at++ {
		if r.whole() {
			longest = at
		}
		if at == len(s) || !r.read(s[at]) {
			return longest
		}
	}
}

// reach is the set of the positions of a pattern that are reached with the bytes
// read so far: ends[i] says whether the first i atoms match these bytes.
type reach struct {
	atoms []api.Atom
	ends  []bool
}

// begin returns what is reached before the first byte.
func begin(p []api.Atom) reach {
	r := reach{atoms: p, ends: make([]bool, len(p)+1)}
	r.ends[0] = true
	r.skip()
	return r
}

// whole reports whether the whole pattern matches the bytes read so far.
func (r *reach) whole() bool { return r.ends[len(r.atoms)] }

// read reads one more byte, and reports whether any position is reached with
// it; if there is none, no further byte reaches one.
func (r *reach) read(b byte) bool {
	// From the last atom to the first one, so that ends[i] is still the old one.
	for i := len(r.atoms) - 1; i >= 0; i-- {
		takes := r.ends[i] || r.atoms[i].Many && r.ends[i+1]
		r.ends[i+1] = takes && Contains(r.atoms[i], b)
	}
	r.ends[0] = false
	return r.skip()
}

// skip reaches what lies behind the atoms that match no bytes, and reports
// whether any position is reached.
func (r *reach) skip() bool {
	some := r.ends[0]
	for i, a := range r.atoms {
		if r.ends[i] && a.Min <= 0 {
			r.ends[i+1] = true
		}
		some = some || r.ends[i+1]
	}
	return some
}
