package pattern_test

import (
	"regexp"
	"slices"
	"strings"
	"testing"
	"unicode/utf8"

	"bitext/api"
	"bitext/pattern"
)

// The tests of this file set the package against a plain statement of the
// chapter: sets as lists of bytes, the written form as regular expressions, and
// matching as a search for the parts of the string that the atoms match.

// The bytes of the classes; those of class Letter are greats, smalls and highs.
var (
	spaces   = "\t\n\r "
	controls = between(0, 8) + between(11, 12) + between(14, 31) + "\x7f"
	digits   = "0123456789"
	greats   = "ABCDEFGHIJKLMNOPQRSTUVWXYZ"
	smalls   = "abcdefghijklmnopqrstuvwxyz"
	highs    = between(128, 255)
	marks    = "!\"#$%&'()*+,-./:;<=>?@[\\]^_`{|}~"
)

// between are the bytes from first to last.
func between(first, last int) string {
	var s []byte
	for b := first; b <= last; b++ {
		s = append(s, byte(b))
	}
	return string(s)
}

// except are the bytes that are not in s.
func except(s string) string {
	var rest []byte
	for b := range 256 {
		if strings.IndexByte(s, byte(b)) < 0 {
			rest = append(rest, byte(b))
		}
	}
	return string(rest)
}

// namedSets are the sets that are written as \ and a letter, by the letter.
var namedSets = map[string]string{
	"s": spaces, "d": digits, "l": greats + smalls + highs, "c": controls, "m": marks, "u": greats,
	"S": except(spaces), "D": except(digits), "L": except(greats + smalls + highs), "C": except(controls), "M": except(marks), "U": except(greats),
}

// The forms go by runes, one for each byte, as latin makes them.
const (
	markForm   = "[!-/:-@[-`{-~]"
	letterForm = `[a-zA-Z0-9\x{80}-\x{ff}]`
	namedForm  = `\\[sdlcmuSDLCMU]`
	byteForm   = `(?:\\` + markForm + `|` + letterForm + "|[!-,./:-@_`{-~])"
	memberForm = namedForm + `|(` + byteForm + `)-(` + byteForm + `)|` + byteForm
	setForm    = `(?:\.|` + namedForm + `|\\` + markForm + `|` + letterForm + "|[!-',\\-/:->@^_`~]" + `|\[\^?(?:` + memberForm + `)+\])`
)

var (
	memberStart = regexp.MustCompile(`^(?:` + memberForm + `)`)
	wholeSet    = regexp.MustCompile(`^` + setForm + `$`)
	atomStart   = regexp.MustCompile(`^(` + setForm + `)([*+?]?)`)
)

// latin returns s with a rune in place of each byte, and bytesOf turns it back.
func latin(s string) string {
	var runes []rune
	for i := range len(s) {
		runes = append(runes, rune(s[i]))
	}
	return string(runes)
}

func bytesOf(latin string) string {
	var s []byte
	for _, r := range latin {
		s = append(s, byte(r))
	}
	return string(s)
}

// member is a member of a set in brackets: its bytes, and for a range in which
// the second byte is less than the first one, the offset of this byte.
type member struct {
	bytes         string
	disorder, end int
}

// members returns the members of a set with its brackets.
func members(written string) []member {
	at := 1
	if strings.HasPrefix(written, "[^") {
		at = 2
	}
	var all []member
	for written[at] != ']' {
		m := memberStart.FindStringSubmatch(latin(written[at:]))
		x := member{end: at + utf8.RuneCountInString(m[0])}
		if m[1] == "" {
			x.bytes = shortSet(written[at:x.end])
		} else {
			first, last := bytesOf(m[1]), bytesOf(m[2])
			x.bytes = between(int(first[len(first)-1]), int(last[len(last)-1]))
			if x.bytes == "" {
				x.disorder = x.end - len(last)
			}
		}
		at, all = x.end, append(all, x)
	}
	return all
}

// shortSet returns the bytes of a byte, or of \ and a byte.
func shortSet(written string) string {
	if len(written) == 1 {
		return written
	}
	if set, ok := namedSets[written[1:]]; ok {
		return set
	}
	return written[1:]
}

// setOf returns the bytes of a set as it is written.
func setOf(written string) string {
	switch {
	case written == ".":
		return except("")
	case len(written) <= 2:
		return shortSet(written)
	}
	var bytes string
	for _, x := range members(written) {
		bytes += x.bytes
	}
	if written[1] == '^' {
		return except(bytes)
	}
	return bytes
}

// disorder returns the offset of the second byte of the first range in the wrong
// order, if there is one in the first size bytes of the set.
func disorder(written string, size int) (at int, found bool) {
	if written[0] != '[' {
		return 0, false
	}
	for _, x := range members(written) {
		if x.disorder > 0 && x.end <= size {
			return x.disorder, true
		}
	}
	return 0, false
}

// finish returns a set that begins with s, whatever the order in its ranges, if
// there is one.
func finish(s string) (set string, ok bool) {
	for _, rest := range []string{"", "]", "a]", "!]", "!"} {
		if wholeSet.MatchString(latin(s + rest)) {
			return s + rest, true
		}
	}
	return "", false
}

// fault returns the offset of the first byte of s with which no set goes on.
func fault(s string) int {
	size, begun := 0, ""
	for ; size < len(s); size++ {
		set, ok := finish(s[:size+1])
		if !ok {
			break
		}
		begun = set
	}
	if size > 0 {
		if at, found := disorder(begun, size); found {
			return at
		}
	}
	return size
}

// parse states P5.1.
func parse(s string) (p []api.Atom, at int, e api.Errno) {
	for at < len(s) {
		if len(p) == 32 {
			return nil, at, api.ErrLimit
		}
		m := atomStart.FindStringSubmatch(latin(s[at:]))
		if m == nil {
			return nil, at + fault(s[at:]), api.ErrSyntax
		}
		set, quantifier := bytesOf(m[1]), m[len(m)-1]
		if offset, found := disorder(set, len(set)); found {
			return nil, at + offset, api.ErrSyntax
		}
		many := quantifier == "*" || quantifier == "+"
		least := 1
		if quantifier == "*" || quantifier == "?" {
			least = 0
		}
		p = append(p, atom(setOf(set), least, many))
		at += len(set) + len(quantifier)
	}
	return p, 0, api.OK
}

// atomMatches states what an atom matches.
func atomMatches(a api.Atom, s string) bool {
	for i := range len(s) {
		if !pattern.Contains(a, s[i]) {
			return false
		}
	}
	switch {
	case a.Many && a.Min <= 0:
		return true
	case a.Many:
		return len(s) >= 1
	case a.Min <= 0:
		return len(s) <= 1
	}
	return len(s) == 1
}

// matches states what a pattern matches.
func matches(p []api.Atom, s string) bool {
	if len(p) == 0 {
		return s == ""
	}
	for n := range len(s) + 1 {
		if atomMatches(p[0], s[:n]) && matches(p[1:], s[n:]) {
			return true
		}
	}
	return false
}

// checkMatches checks the four calls of P5.3.
func checkMatches(t *testing.T, p []api.Atom, s string) {
	t.Helper()
	longest, suffix := -1, false
	for n := range len(s) + 1 {
		if matches(p, s[:n]) {
			longest = n
		}
		suffix = suffix || matches(p, s[n:])
	}
	if got := pattern.Match(p, s); got != (longest == len(s)) {
		t.Errorf("Match(%s, %q) = %v", show(p), s, got)
	}
	if got := pattern.Prefix(p, s); got != (longest >= 0) {
		t.Errorf("Prefix(%s, %q) = %v", show(p), s, got)
	}
	if got := pattern.Suffix(p, s); got != suffix {
		t.Errorf("Suffix(%s, %q) = %v", show(p), s, got)
	}
	if got := pattern.Longest(p, s); got != longest {
		t.Errorf("Longest(%s, %q) = %d, not %d", show(p), s, got, longest)
	}
}

// checkParse checks a call of Parse, and returns its error.
func checkParse(t *testing.T, s string) (at int, e api.Errno) {
	t.Helper()
	want, at, e := parse(s)
	if got, gotAt, gotE := pattern.Parse(s); !slices.Equal(got, want) || gotAt != at || gotE != e {
		t.Errorf("Parse(%q) = %s, %d, %d, not %s, %d, %d", s, show(got), gotAt, gotE, show(want), at, e)
	}
	return at, e
}

// grow calls visit for s and for all strings of at most most more bytes of the
// alphabet behind it, but not behind a string for which visit returns false.
func grow(s, alphabet string, most int, visit func(string) bool) {
	if !visit(s) || most == 0 {
		return
	}
	for i := range len(alphabet) {
		grow(s+alphabet[i:i+1], alphabet, most-1, visit)
	}
}

// checkGrown checks Parse for all strings of grow. What lies behind the offset
// of an error cannot matter, so it is tried with few bytes only.
func checkGrown(t *testing.T, s, alphabet string, most int) {
	t.Helper()
	grow(s, alphabet, most, func(s string) bool {
		at, e := checkParse(t, s)
		if e == api.OK || at == len(s) {
			return true
		}
		checkParse(t, s+"]")
		checkParse(t, s+"\\")
		return false
	})
}

// P5.1: all short strings of the bytes that the syntax is made of.
func TestParseShortStrings(t *testing.T) {
	checkGrown(t, "", "\\[]^-*+az!", 5)
	checkGrown(t, "", "\\[^]-d\xff~.", 5)
	checkGrown(t, "[", "\\]^-a!sS0", 5)
	checkGrown(t, "[a-", "\\]-Zbq~\xff", 4)
	checkGrown(t, "b[^~-z", "\\]-a~?", 4)
}

// P5.1: every byte at each place that the syntax has.
func TestParseEveryByte(t *testing.T) {
	all := between(0, 255)
	for _, s := range []string{"", "a", "\\", "a*", "[", "[^", "[a", "[\\", "[a-", "[a-\\", "[!-", "[!-\\", "[~-\\", "[\xff-\\", "[\\!-", "[a-z", "[\\d", "[a]", "[a]+", "\\d", "."} {
		checkGrown(t, s, all, 1)
	}
	for _, s := range []string{"", "["} {
		checkGrown(t, s, all, 2)
	}
}

// P5.1: short strings behind just as many atoms as a pattern may have, and
// behind one less.
func TestParseShortStringsAtTheLimit(t *testing.T) {
	for _, unit := range []string{"a", "\\d*", "[^\\]-z]?"} {
		for n := range 3 {
			checkGrown(t, strings.Repeat(unit, api.MaxAtoms-n), "a*\\[]-d ", 3)
		}
	}
}

// P5.3: all patterns of up to three atoms of a few kinds, and short strings.
func TestMatchesShortStrings(t *testing.T) {
	var valid, all []api.Atom
	for _, set := range []string{"", "a", "b", "ab"} {
		for _, least := range []int{-1, 0, 1, 2} {
			for _, many := range []bool{false, true} {
				x := atom(set, least, many)
				all = append(all, x)
				if set != "" && (least == 0 || least == 1) {
					valid = append(valid, x)
				}
			}
		}
	}
	patterns := [][]api.Atom{nil}
	for _, x := range all {
		patterns = append(patterns, list(x))
		for _, y := range all {
			patterns = append(patterns, list(x, y))
		}
	}
	for _, x := range valid {
		for _, y := range valid {
			for _, z := range valid {
				patterns = append(patterns, list(x, y, z))
			}
		}
	}
	for _, p := range patterns {
		grow("", "ab", 5, func(s string) bool { checkMatches(t, p, s); return true })
	}
}

// ordinary are patterns of rules and searches, with strings that they nearly
// match.
var ordinary = []string{
	"", "a", ".", ".*", ".+", ".?", "[.!?]+\\s", "\\u\\.", "\\d*", "a*b?", "Mr\\.", "\\u\\l*\\.\\s?", "\\d+[.,]\\d+", "[^\\s]+@[^\\s.]+\\.\\l+", "\\s*$\\d+", "a*a*a*", "\\(\\d+\\)?", "[a-c]*[b-d]+", ".*b.*", "a?b?c?", "\\L+", "[^a]*a[^a]*", "\\S+\\s+\\S+", "\xc3[\x80-\xbf]", "\\c?\\m",
}

var samples = []string{
	"", "a", "b", "ab", "aabb", "?! ", "?!", ". ", "J.S.", "Mr. X", "1,000.50", "x@y.de", " $5", "(12)", "abcd", "dcba", "aaa", "aXa", "é", "é!", "a b", "  ", "\x00-", "\xff\xfe", "a\nb", "No. 5",
}

// P5.1 and P5.3: ordinary patterns with ordinary strings.
func TestMatchesOrdinary(t *testing.T) {
	for _, written := range ordinary {
		if _, e := checkParse(t, written); e != api.OK {
			t.Errorf("Parse(%q) = %d", written, e)
		}
		for _, s := range samples {
			checkMatches(t, parsed(t, written), s)
		}
	}
}

// P5.5: a reversed pattern matches the reversed strings.
func TestReversedMatches(t *testing.T) {
	for _, written := range ordinary {
		p := parsed(t, written)
		for _, s := range samples {
			back := []byte(s)
			slices.Reverse(back)
			if pattern.Match(pattern.Reverse(p), string(back)) != matches(p, s) {
				t.Errorf("Match(Reverse(%q), %q) is not %v", written, back, matches(p, s))
			}
		}
	}
}

// P5.5: two patterns one behind the other match the strings in two parts.
func TestMatchesOfTwoPatterns(t *testing.T) {
	for _, x := range ordinary {
		for _, y := range ordinary {
			p, q := parsed(t, x), parsed(t, y)
			both := slices.Concat(p, q)
			for _, s := range samples {
				want := false
				for n := range len(s) + 1 {
					want = want || matches(p, s[:n]) && matches(q, s[n:])
				}
				if got := pattern.Match(both, s); got != want {
					t.Errorf("Match(%q and %q, %q) = %v", x, y, s, got)
				}
			}
		}
	}
}
