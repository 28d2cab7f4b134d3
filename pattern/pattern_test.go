package pattern_test

import (
	"fmt"
	"math"
	"slices"
	"strings"
	"testing"

	"bitext/api"
	"bitext/pattern"
)

// atom is an atom with the bytes of set.
func atom(set string, least int, many bool) api.Atom {
	a := api.Atom{Min: least, Many: many}
	for i := range len(set) {
		a.Set[set[i]/8] |= 1 << (set[i] % 8)
	}
	return a
}

// one is an atom that matches one of the bytes of set.
func one(set string) api.Atom { return atom(set, 1, false) }

// list is a pattern.
func list(atoms ...api.Atom) []api.Atom { return atoms }

// times is a pattern of n equal atoms.
func times(n int, a api.Atom) []api.Atom { return slices.Repeat(list(a), n) }

// show is a pattern with the bytes of its sets, or those that a large set lacks.
func show(p []api.Atom) string {
	s := "["
	for _, a := range p {
		var set []byte
		for b := range 256 {
			if a.Set[b/8]>>(b%8)&1 == 1 {
				set = append(set, byte(b))
			}
		}
		sign, bytes := "", string(set)
		if len(set) > 128 {
			sign, bytes = "^", except(bytes)
		}
		s += fmt.Sprintf(" {%s%q %d %v}", sign, bytes, a.Min, a.Many)
	}
	return s + " ]"
}

// pass checks that s is written for p.
func pass(t *testing.T, p []api.Atom, s string) {
	t.Helper()
	if got, at, e := pattern.Parse(s); !slices.Equal(got, p) || at != 0 || e != api.OK {
		t.Errorf("Parse(%q) = %s, %d, %d, not %s", s, show(got), at, e, show(p))
	}
}

// fail checks that Parse reports an error at an offset, and nothing else.
func fail(t *testing.T, s string, at int, want api.Errno) {
	t.Helper()
	if p, got, e := pattern.Parse(s); len(p) != 0 || got != at || e != want {
		t.Errorf("Parse(%q) = %s, %d, %d, not %d, %d", s, show(p), got, e, at, want)
	}
}

// parsed is the pattern that is written as s.
func parsed(t *testing.T, s string) []api.Atom {
	t.Helper()
	p, at, e := pattern.Parse(s)
	if at != 0 || e != api.OK {
		t.Fatalf("Parse(%q) = %d, %d", s, at, e)
	}
	return p
}

// P5.1: the empty string, and sets and quantifiers of every form.
func TestParsePatterns(t *testing.T) {
	for s, p := range map[string][]api.Atom{
		"":                      nil,
		"a":                     list(one("a")),
		"ab":                    list(one("a"), one("b")),
		"a*":                    list(atom("a", 0, true)),
		"a+":                    list(atom("a", 1, true)),
		"a?":                    list(atom("a", 0, false)),
		"a*b+c?d":               list(atom("a", 0, true), atom("b", 1, true), atom("c", 0, false), one("d")),
		".":                     list(one(except(""))),
		".*":                    list(atom(except(""), 0, true)),
		"[.!?]+\\s":             list(atom(".!?", 1, true), one("\t\n\r ")),
		"\\u\\.":                list(one(greats), one(".")),
		"[a]":                   list(one("a")),
		"[abc]":                 list(one("abc")),
		"[aaa]":                 list(one("a")),
		"[^a]":                  list(one(except("a"))),
		"[^ab-d]?":              list(atom(except("abcd"), 0, false)),
		"[a-c]":                 list(one("abc")),
		"[a-a]":                 list(one("a")),
		"[a-c0-2_]":             list(one("abc012_")),
		"[a-cb-d]":              list(one("abcd")),
		"[!-\\/]":               list(one("!\"#$%&'()*+,-./")),
		"[\\!-/]":               list(one("!\"#$%&'()*+,-./")),
		"[\\--\\/]":             list(one("-./")),
		"[+-\\-]":               list(one("+,-")),
		"[\\[-\\]]":             list(one("[\\]")),
		"[\\\\-\\^]":            list(one("\\]^")),
		"[\\^-a]":               list(one("^_`a")),
		"[^\\^]":                list(one(except("^"))),
		"[\\]\\[\\^\\-\\\\]*":   list(atom("][^-\\", 0, true)),
		"[a\\-c]":               list(one("a-c")),
		"[\\da-f]":              list(one("0123456789abcdef")),
		"[\\d\\d]":              list(one(digits)),
		"[\\s\\S]":              list(one(except(""))),
		"[^\\s\\S]":             list(one("")),
		"[^\\S]":                list(one(spaces)),
		"[^\\d_]":               list(one(except(digits + "_"))),
		"[.*+?(){}|]":           list(one(".*+?(){}|")),
		"\\.\\*\\+\\?":          list(one("."), one("*"), one("+"), one("?")),
		"\\[\\]\\\\":            list(one("["), one("]"), one("\\")),
		"\\**\\++\\??":          list(atom("*", 0, true), atom("+", 1, true), atom("?", 0, false)),
		"-^$&":                  list(one("-"), one("^"), one("$"), one("&")),
		"é":                     list(one("\xc3"), one("\xa9")),
		"[\x80-\xff]":           list(one(highs)),
		"[0-\xff]":              list(one(between('0', 255))),
		"[^!-~]":                list(one(between(0, 32) + between(127, 255))),
		"a-z":                   list(one("a"), one("-"), one("z")),
		"s\\s":                  list(one("s"), one(spaces)),
		"\\\\s":                 list(one("\\"), one("s")),
		"[\\\\s]":               list(one("\\s")),
		"[a-z]*[A-Z]+[0-9]?\\_": list(atom(smalls, 0, true), atom(greats, 1, true), atom(digits, 0, false), one("_")),
	} {
		pass(t, p, s)
	}
}

// P5.1: every byte outside brackets, with and without \.
func TestEveryByteOutside(t *testing.T) {
	for b := range 256 {
		s := string([]byte{byte(b)})
		for _, before := range []string{"", "b", "b*", "[b]+", "\\d?"} {
			p, at := parsed(t, before), len(before)
			switch {
			case strings.Contains(spaces+controls, s), strings.Contains("()|]{}", s):
				fail(t, before+s, at, api.ErrSyntax)
				fail(t, before+s+"a", at, api.ErrSyntax)
			case strings.Contains("*+?", s):
				if before != "b" {
					fail(t, before+s, at, api.ErrSyntax)
				}
			case s == "\\" || s == "[":
				fail(t, before+s, at+1, api.ErrSyntax)
			case s == ".":
				pass(t, append(p, one(except(""))), before+s)
			default:
				pass(t, append(p, one(s)), before+s)
				pass(t, append(p, atom(s, 1, true)), before+s+"+")
			}
			switch set, ok := namedSets[s]; {
			case strings.Contains(marks, s):
				pass(t, append(p, one(s)), before+"\\"+s)
				pass(t, append(p, atom(s, 0, true), one("a")), before+"\\"+s+"*a")
			case ok:
				pass(t, append(p, one(set)), before+"\\"+s)
			default:
				fail(t, before+"\\"+s, at+1, api.ErrSyntax)
				fail(t, before+"\\"+s+"a", at+1, api.ErrSyntax)
			}
		}
	}
}

// P5.1: every byte inside brackets, with and without \.
func TestEveryByteInside(t *testing.T) {
	for b := range 256 {
		s := string([]byte{byte(b)})
		for _, begin := range []string{"[x", "[\\d\\]", "[a-f", "[^x", "[0"} {
			others := func(more string) string { return setOf(begin + more + "]") }
			switch {
			case strings.Contains(spaces+controls, s), s == "[", s == "^":
				fail(t, begin+s+"]", len(begin), api.ErrSyntax)
				fail(t, begin+s, len(begin), api.ErrSyntax)
			case s == "]":
				pass(t, list(one(others(""))), begin+s)
			case s == "\\":
				fail(t, begin+s, len(begin)+1, api.ErrSyntax)
				fail(t, begin+s+"]", len(begin)+2, api.ErrSyntax)
			case s != "-":
				pass(t, list(one(others(s))), begin+s+"]")
				pass(t, list(one(others(s))), begin+s+s+"]")
				fail(t, begin+s, len(begin)+1, api.ErrSyntax)
			}
			if _, ok := namedSets[s]; ok || strings.Contains(marks, s) {
				pass(t, list(one(others("\\"+s))), begin+"\\"+s+"]")
			} else {
				fail(t, begin+"\\"+s+"]", len(begin)+1, api.ErrSyntax)
			}
		}
	}
}

// P5.1: every byte as the only member, with and without \, and with ^.
func TestEveryByteAsOnlyMember(t *testing.T) {
	for b := range 256 {
		s := string([]byte{byte(b)})
		for _, begin := range []string{"[", "[^"} {
			written := func(bytes string) []api.Atom {
				if begin == "[^" {
					return list(one(except(bytes)))
				}
				return list(one(bytes))
			}
			switch {
			case s == "\\":
				fail(t, begin+s+"]", len(begin)+2, api.ErrSyntax)
			case s == "^" && begin == "[":
				fail(t, begin+s+"]", len(begin)+1, api.ErrSyntax)
			case strings.Contains(spaces+controls, s), strings.Contains("][^-", s):
				fail(t, begin+s+"]", len(begin), api.ErrSyntax)
			default:
				pass(t, written(s), begin+s+"]")
			}
			switch set, ok := namedSets[s]; {
			case strings.Contains(marks, s):
				pass(t, written(s), begin+"\\"+s+"]")
			case ok:
				pass(t, written(set), begin+"\\"+s+"]")
			default:
				fail(t, begin+"\\"+s+"]", len(begin)+1, api.ErrSyntax)
			}
		}
	}
}

// P5.1: every letter behind a \, small and great, outside and inside brackets,
// and at either end of a range.
func TestEveryLetter(t *testing.T) {
	for _, letter := range strings.Split(smalls+greats, "") {
		s := "\\" + letter
		if set, ok := namedSets[letter]; ok {
			pass(t, list(one(set)), s)
			pass(t, list(atom(set, 0, true), one("s")), s+"*s")
			pass(t, list(one(set)), "["+s+"]")
			pass(t, list(one(except(set))), "[^"+s+"]")
			pass(t, list(one(set+letter)), "["+s+letter+"]")
			pass(t, list(one(set+"_")), "[_"+s+"]")
			for _, end := range []string{"z", "\\~", "\xff", "\\d", "]", "-", "\\"} {
				fail(t, "["+s+"-"+end+"]", 3, api.ErrSyntax)
			}
		} else {
			fail(t, s, 1, api.ErrSyntax)
			fail(t, "ab"+s+"*", 3, api.ErrSyntax)
			fail(t, "["+s+"]", 2, api.ErrSyntax)
			fail(t, "[^a"+s+"]", 4, api.ErrSyntax)
			fail(t, "["+s+"-z]", 2, api.ErrSyntax)
		}
		// There is no such range, whatever the letter and the byte before it.
		for _, first := range []string{"a", "\\!", "~", "\xff"} {
			fail(t, "["+first+"-"+s+"]", len(first)+3, api.ErrSyntax)
			fail(t, "["+first+"-"+s, len(first)+3, api.ErrSyntax)
		}
	}
	// What the letters stand for, apart from the tables of the tests.
	for letter, has := range map[string]string{"s": "\t\n\r ", "d": "09", "l": "AZaz\x80\xff", "c": "\x00\x08\x0b\x0c\x0e\x1f\x7f", "m": "!/:@[`{~", "u": "AZ"} {
		lacks := map[string]string{"s": "\x08\x0b\x0c\x0e\x1f!", "d": "/:", "l": "@[`{\x7f", "c": "\t\n\r ~\x80", "m": " 09AZaz\x7f\x80", "u": "@[az\x80"}[letter]
		for i := range len(has) + len(lacks) {
			b, in := (has + lacks)[i], i < len(has)
			if pattern.Contains(parsed(t, "\\"+letter)[0], b) != in || pattern.Contains(parsed(t, "\\"+strings.ToUpper(letter))[0], b) == in {
				t.Errorf("the byte %q is wrong in \\%s or its opposite", b, letter)
			}
		}
	}
}

// byteForms are all ways to write a byte of a member.
func byteForms() map[string]byte {
	forms := map[string]byte{}
	for b := range 256 {
		s := string([]byte{byte(b)})
		if strings.Contains(marks, s) {
			forms["\\"+s] = byte(b)
		}
		if !strings.Contains(spaces+controls, s) && !strings.Contains("\\][^-", s) {
			forms[s] = byte(b)
		}
	}
	return forms
}

// P5.1: every range, with and without \ at both ends.
func TestEveryRange(t *testing.T) {
	forms := byteForms()
	if len(forms) != 128+52+10+32+27 {
		t.Fatalf("%d ways to write a byte", len(forms))
	}
	for x, first := range forms {
		for y, last := range forms {
			s := "[" + x + "-" + y + "]"
			if first <= last {
				pass(t, list(one(between(int(first), int(last)))), s)
				continue
			}
			at := len("[" + x + "-")
			fail(t, s, at, api.ErrSyntax)
			fail(t, s[:len(s)-1], at, api.ErrSyntax)
			fail(t, "a[^b"+s[1:len(s)-1]+" ", at+3, api.ErrSyntax)
		}
	}
}

// P5.1: the offset of a range that is in the wrong order or that is no range.
func TestBadRanges(t *testing.T) {
	for s, at := range map[string]int{
		"[z-a]": 3, "[z-a": 3, "[z-\\^]": 3, "[z-\\^": 3, "[\\~-a]": 4, "[\\~-\\!]": 4, "[\\~-\\!": 4, "[~-\\!]": 3, "[^z-a]": 4, "[b-c-d]": 4, "[b-cz-a]": 6, "b*[z-a]": 5, "[9-0]": 3, "[a-Z]": 3, "[\xff-\x80]": 3, "[a-\\-]": 3, "[b-\\]]": 3,
		"[a-]": 3, "[a--]": 3, "[a-[]": 3, "[a-^]": 3, "[a- ]": 3, "[a-\x00]": 3, "[a-\x7f]": 3, "[a-\n]": 3, "[!-]]": 3,
		// A byte that may not stand behind \ is at fault, not the \, also where
		// no byte that may stand there would end the range.
		"[a-\\d]": 4, "[a-\\q]": 4, "[a-\\1]": 4, "[a-\\ ]": 4, "[a-\\\xff]": 4, "[z-\\a]": 4, "[\xff-\\d]": 4, "[\xff-\\ ]": 4, "[\xff-\\!]": 3,
		"[-a]": 1, "[^-a]": 2, "[-]": 1, "[a-z-]": 4, "[a-z-~]": 4, "[\\d-z]": 3, "[\\D-\\d]": 3, "[a\\s-]": 4, "[\\--]": 4,
	} {
		fail(t, s, at, api.ErrSyntax)
	}
}

// P5.1: sets that end with the string; the offset is its length.
func TestCutSets(t *testing.T) {
	for _, before := range []string{"", "a", "[b]*", "\\d", strings.Repeat("a", api.MaxAtoms-1)} {
		for _, s := range []string{
			"\\", "[", "[^", "[a", "[^a", "[\\", "[^\\", "[\\d", "[^\\D", "[\\]", "[\\\\", "[a\\]", "[a-", "[^a-", "[a-\\", "[z-\\", "[\xff-\\", "[\\!-", "[\\!-\\", "[a-z", "[a-\\~", "[a-zA", "[a-zA-", "[^a-z\\", "[.*+?", "[(", "[" + strings.Repeat("a", 5000),
		} {
			fail(t, before+s, len(before+s), api.ErrSyntax)
		}
	}
}

// P5.1: brackets without a member, and brackets where they do not belong.
func TestBrackets(t *testing.T) {
	for s, at := range map[string]int{
		"[]": 1, "[^]": 2, "[]a]": 1, "[^]a]": 2, "[][]": 1, "[^^]": 2, "[a]]": 3, "]": 0, "a]": 1, "[[]": 1, "[a[]": 2, "[a[b]]": 2, "[a^]": 2, "[[:digit:]]": 1, "[^[]": 2, "a[]": 2, "a*[^]*": 4, "[ ]": 1, "[^ ]": 2, "[a ]": 2,
	} {
		fail(t, s, at, api.ErrSyntax)
	}
}

// P5.1: quantifiers at the beginning, behind others and inside brackets.
func TestQuantifiers(t *testing.T) {
	sets := map[string]string{"a": "a", ".": except(""), "\\d": digits, "\\*": "*", "[^a]": except("a"), "[*+?]": "*+?", "[*-\\?]": between('*', '?'), "\xff": "\xff", "-": "-"}
	for _, q := range []string{"*", "+", "?"} {
		fail(t, q, 0, api.ErrSyntax)
		fail(t, q+"a", 0, api.ErrSyntax)
		pass(t, list(one(q)), "["+q+"]")
		pass(t, list(one(except(q))), "[^"+q+"]")
		pass(t, list(one(q)), "[\\"+q+"]")
		pass(t, list(one("a"+q)), "[a"+q+"]")
		fail(t, "["+q, 2, api.ErrSyntax)
		least, many := 0, q != "?"
		if q == "+" {
			least = 1
		}
		for s, set := range sets {
			pass(t, list(atom(set, least, many)), s+q)
			pass(t, list(one("b"), atom(set, least, many), one("b")), "b"+s+q+"b")
			for _, second := range []string{"*", "+", "?", "*a", "??"} {
				fail(t, s+q+second, len(s)+1, api.ErrSyntax)
				fail(t, "b"+s+q+second, len(s)+2, api.ErrSyntax)
			}
		}
	}
	for s, at := range map[string]int{"a{2}": 1, "a{": 1, "a}": 1, "(a)": 0, "a(b": 1, "a)": 1, "a|b": 1, "|": 0, "a*{": 2, "a**": 2, "a+?": 2} {
		fail(t, s, at, api.ErrSyntax)
	}
}

// P5.1: MaxAtoms atoms and one more, whatever follows behind them.
func TestAtomLimit(t *testing.T) {
	long := "[" + strings.Repeat("a-z", 100) + "]"
	for _, unit := range []string{"a", ".", "\\d", "\\\\", "[a-z]", "[^\\]]", long, "a*", ".+", "\\*?", "[\\--\\/]*", "\xff"} {
		full := strings.Repeat(unit, api.MaxAtoms)
		p := times(api.MaxAtoms, parsed(t, unit)[0])
		pass(t, p, full)
		for _, behind := range []string{"a", "a*", "b(", ".", "\\d", "\\", "\\q", "[a]", "[", "[]", "[^]", "[z-a]", "]", "(", ")", "|", "{", "}", " ", "\n", "\x00", "\x7f", "\xff", "a b", "-", "^"} {
			fail(t, full+behind, len(full), api.ErrLimit)
			checkParse(t, full[len(unit):]+behind)
		}
		for _, q := range []string{"*", "+", "?"} {
			if strings.ContainsAny(unit[len(unit)-1:], "*+?") {
				fail(t, full+q, len(full), api.ErrLimit)
				fail(t, full+q+"a", len(full), api.ErrLimit)
			} else {
				// It belongs to the last atom.
				checkParse(t, full+q)
				fail(t, full+q+"a", len(full)+1, api.ErrLimit)
				fail(t, full+q+q, len(full)+1, api.ErrLimit)
			}
		}
		// An error before the last atom comes first.
		for _, s := range []string{"(", " ", "\x00", "[z-a]", "\\q", "[]"} {
			at, e := checkParse(t, s+full+"a")
			if e != api.ErrSyntax {
				t.Errorf("Parse(%q) = %d, %d", s+full+"a", at, e)
			}
			fail(t, full[len(unit):]+s+"ab", len(full)-len(unit)+at, api.ErrSyntax)
		}
	}
	fail(t, strings.Repeat("a", 1<<20), api.MaxAtoms, api.ErrLimit)
	fail(t, strings.Repeat("a*", 1<<20), 2*api.MaxAtoms, api.ErrLimit)
}

// P5.1: bytes of class Space and Control are nowhere allowed.
func TestSpacesAndControls(t *testing.T) {
	for _, s := range strings.Split(spaces+controls, "") {
		for _, before := range []string{"", "a", "a*", "\\d", ".", "[a]", "\\", "[", "[^", "[a", "[\\", "[\\d", "[a-", "[a-\\", "[\\!-", "[a-z"} {
			for _, behind := range []string{"", "a", "]", "*", "-z]"} {
				fail(t, before+s+behind, len(before), api.ErrSyntax)
			}
		}
	}
}

// P5.1: long sets in brackets are read to their end.
func TestLongSets(t *testing.T) {
	for unit, set := range map[string]string{"a": "a", "a-z": smalls, "\\d": digits, "\\]": "]", "\xff": "\xff", "[.!-/": "[.!-/"} {
		members := strings.Repeat(unit, 1<<16)
		if strings.Contains(unit, "[") {
			fail(t, "["+members+"]", 1, api.ErrSyntax)
			continue
		}
		pass(t, list(one(set)), "["+members+"]")
		pass(t, list(atom(except(set), 1, true)), "[^"+members+"]+")
		fail(t, "["+members, 1+len(members), api.ErrSyntax)
		fail(t, "["+members+"z-a]", 1+len(members)+2, api.ErrSyntax)
	}
}

// P5.2: the number of atoms, and then every Min.
func TestValidate(t *testing.T) {
	full := times(api.MaxAtoms, atom("a", 0, true))
	for i, x := range []struct {
		p    []api.Atom
		want api.Errno
	}{
		{nil, api.OK}, {list(), api.OK}, {list(one("a")), api.OK}, {list(api.Atom{}), api.OK}, {list(atom("", 1, true), atom(except(""), 0, false)), api.OK}, {full, api.OK}, {times(api.MaxAtoms, one("")), api.OK},
		{append(slices.Clone(full), one("a")), api.ErrLimit}, {times(5000, one("a")), api.ErrLimit}, {make([]api.Atom, api.MaxAtoms+1), api.ErrLimit},
		// Both errors at once.
		{append(slices.Clone(full), atom("a", 2, false)), api.ErrLimit}, {append(list(atom("a", -1, false)), full...), api.ErrLimit}, {times(api.MaxAtoms+1, atom("a", math.MinInt, true)), api.ErrLimit},
	} {
		if got := pattern.Validate(x.p); got != x.want {
			t.Errorf("%d: Validate of %d atoms = %d, not %d", i, len(x.p), got, x.want)
		}
	}
	for _, least := range []int{math.MinInt, -256, -2, -1, 2, 3, 256, 1 << 32, math.MaxInt} {
		for _, many := range []bool{false, true} {
			x := atom("a", least, many)
			for at := range api.MaxAtoms {
				p := slices.Clone(full)
				p[at] = x
				for _, p := range [][]api.Atom{p, p[:at+1], p[at:]} {
					if got := pattern.Validate(p); got != api.ErrArgument {
						t.Errorf("Validate with the Min %d at %d of %d = %d", least, at, len(p), got)
					}
				}
			}
		}
	}
}

// P5.2: the set of an atom, bit by bit, whatever its Min and Many.
func TestContains(t *testing.T) {
	for _, x := range list(atom("", 1, false), atom("", 0, true), atom("", -7, false), atom("", math.MaxInt, true)) {
		for set := range 256 {
			only, others := x, x
			only.Set[set/8] = 1 << (set % 8)
			for i := range others.Set {
				others.Set[i] = ^only.Set[i]
			}
			for b := range 256 {
				if got := pattern.Contains(only, byte(b)); got != (b == set) {
					t.Errorf("Contains of the set of %d and %d = %v", set, b, got)
				}
				if got := pattern.Contains(others, byte(b)); got != (b != set) {
					t.Errorf("Contains of the set without %d and %d = %v", set, b, got)
				}
			}
		}
	}
}

// P5.3: the examples, the empty pattern and the empty string, and others.
func TestMatchValues(t *testing.T) {
	for _, x := range []struct {
		p, s                  string
		match, prefix, suffix bool
		longest               int
	}{
		{"", "", true, true, true, 0}, {"", "a", false, true, true, 0}, {"a", "", false, false, false, -1}, {"a?", "", true, true, true, 0}, {"a*", "", true, true, true, 0}, {"a+", "", false, false, false, -1},
		{"[.!?]+\\s", "?! ", true, true, true, 3}, {"[.!?]+\\s", "?!", false, false, false, -1}, {"[.!?]+\\s", "a! b", false, false, false, -1}, {"\\u\\.", "J.S.", false, true, true, 2}, {"\\d*", "x", false, true, true, 0}, {"\\d*", "12x3", false, true, true, 2}, {"a*b?", "aabb", false, true, true, 3},
		{"a", "ab", false, true, false, 1}, {"b", "ab", false, false, true, -1}, {"a+", "aab", false, true, false, 2}, {"a+", "baa", false, false, true, -1}, {"a?", "aa", false, true, true, 1}, {"ab", "ab", true, true, true, 2}, {"ab", "ba", false, false, false, -1}, {"a*ab", "aaab", true, true, true, 4}, {"a*a", "aaa", true, true, true, 3}, {"a+a+", "a", false, false, false, -1}, {"a+a+", "aa", true, true, true, 2}, {"a?a?a?", "aaaa", false, true, true, 3}, {".*b", "abab", true, true, true, 4}, {".*b", "aba", false, true, false, 2}, {"b.*", "aba", false, false, true, -1}, {"a+b?a", "aba", true, true, true, 3}, {"a+b?a", "aa", true, true, true, 2},
		{"[^\\s\\S]*", "a", false, true, true, 0}, {"[^\\s\\S]?", "", true, true, true, 0}, {"[^\\s\\S]", "a", false, false, false, -1}, {".", "\x00", true, true, true, 1}, {".", "é", false, true, true, 1}, {"..", "é", true, true, true, 2}, {".+", "\x00\n\xff", true, true, true, 3}, {"\\u\\l*", "Ab\xff1", false, true, false, 3},
	} {
		p := parsed(t, x.p)
		if pattern.Match(p, x.s) != x.match || pattern.Prefix(p, x.s) != x.prefix || pattern.Suffix(p, x.s) != x.suffix || pattern.Longest(p, x.s) != x.longest {
			t.Errorf("%q and %q: %v, %v, %v, %d", x.p, x.s, pattern.Match(p, x.s), pattern.Prefix(p, x.s), pattern.Suffix(p, x.s), pattern.Longest(p, x.s))
		}
	}
}

// P5.3: an atom with any Min is one with the nearest Min that is allowed.
func TestOddMin(t *testing.T) {
	for _, least := range []int{math.MinInt, -256, -2, -1, 2, 3, 255, 256, 1 << 32, math.MaxInt} {
		near := max(0, min(least, 1))
		for _, many := range []bool{false, true} {
			for _, x := range [][2][]api.Atom{
				{list(atom("a", least, many)), list(atom("a", near, many))},
				{list(atom("a", least, many), one("b")), list(atom("a", near, many), one("b"))},
				{list(one("b"), atom("ab", least, many)), list(one("b"), atom("ab", near, many))},
				{times(3, atom("a", least, many)), times(3, atom("a", near, many))},
				{list(atom("", least, many)), list(atom("", near, many))},
			} {
				grow("", "ab", 5, func(s string) bool {
					odd, p := x[0], x[1]
					if pattern.Match(odd, s) != pattern.Match(p, s) || pattern.Prefix(odd, s) != pattern.Prefix(p, s) || pattern.Suffix(odd, s) != pattern.Suffix(p, s) || pattern.Longest(odd, s) != pattern.Longest(p, s) {
						t.Errorf("%s and %s differ for %q", show(odd), show(p), s)
					}
					checkMatches(t, odd, s)
					return true
				})
			}
		}
	}
}

// checkResults compares the four calls with what is known of a long string.
func checkResults(t *testing.T, name string, p []api.Atom, s string, match, prefix, suffix bool, longest int) {
	t.Helper()
	if m, f, l, n := pattern.Match(p, s), pattern.Prefix(p, s), pattern.Suffix(p, s), pattern.Longest(p, s); m != match || f != prefix || l != suffix || n != longest {
		t.Errorf("%s and %d bytes: %v, %v, %v, %d", name, len(s), m, f, l, n)
	}
}

// P5.3: patterns in which many atoms have Min 0 and Many, for which there are
// too many ways to divide a long string to try them all.
func TestManyWays(t *testing.T) {
	a := strings.Repeat("a", 5000)
	stars := strings.Repeat("a*", api.MaxAtoms)
	less := stars[2:]
	for _, x := range []struct {
		p, s                  string
		match, prefix, suffix bool
		longest               int
	}{
		{stars, "", true, true, true, 0}, {stars, a, true, true, true, 5000}, {stars, a + "b", false, true, true, 5000}, {stars, "b" + a, false, true, true, 0}, {stars, a + "b" + a, false, true, true, 5000},
		{less + "b", a, false, false, false, -1}, {less + "b", a + "b", true, true, true, 5001}, {less + "b", a + "ba", false, true, false, 5001}, {less + "b", "b", true, true, true, 1}, {"b" + less, a, false, false, false, -1}, {"b" + less, "b" + a, true, true, true, 5001}, {"b" + less, a + "b", false, false, true, -1},
		{strings.Repeat(".*", api.MaxAtoms), a, true, true, true, 5000}, {strings.Repeat(".*", api.MaxAtoms-1) + "b", a, false, false, false, -1}, {strings.Repeat("a+", api.MaxAtoms), a, true, true, true, 5000}, {strings.Repeat("a+", api.MaxAtoms), a[:31], false, false, false, -1}, {strings.Repeat("a+", api.MaxAtoms), a[:32], true, true, true, 32}, {strings.Repeat("a+", api.MaxAtoms-1) + "b", a, false, false, false, -1},
		{strings.Repeat("a?", api.MaxAtoms), a[:32], true, true, true, 32}, {strings.Repeat("a?", api.MaxAtoms), a[:33], false, true, true, 32}, {strings.Repeat("a?", 16) + strings.Repeat("a", 16), a[:16], true, true, true, 16}, {strings.Repeat("a?", 16) + strings.Repeat("a", 16), a[:15], false, false, false, -1}, {strings.Repeat("a?", 16) + strings.Repeat("a", 16), a[:33], false, true, true, 32}, {strings.Repeat("a*b*", 16), strings.Repeat("ab", 16), true, true, true, 32}, {strings.Repeat("a*b*", 16), strings.Repeat("ab", 17), false, true, true, 32}, {strings.Repeat("[ab]*a", 16), strings.Repeat("b", 5000) + a[:16], true, true, true, 5016}, {strings.Repeat("[ab]*a", 16), strings.Repeat("b", 5000) + a[:15], false, false, false, -1},
	} {
		checkResults(t, x.p, parsed(t, x.p), x.s, x.match, x.prefix, x.suffix, x.longest)
	}
}

// P5.3: patterns with more than MaxAtoms atoms have results as well.
func TestLongPatterns(t *testing.T) {
	const most = 5000
	a := strings.Repeat("a", most)
	for _, n := range []int{31, 32, 33, 63, 64, 65, 127, 128, 129, 255, 256, 257, 1000} {
		checkResults(t, "atoms", times(n, one("a")), a[:n], true, true, true, n)
		checkResults(t, "atoms", times(n, one("a")), a[:n-1], false, false, false, -1)
		checkResults(t, "atoms", times(n, one("a")), a[:n+1], false, true, true, n)
		checkResults(t, "stars", times(n, atom("a", -3, true)), a, true, true, true, most)
		checkResults(t, "marks", times(n, atom("a", 0, false)), a, false, true, true, n)
		checkResults(t, "pluses", times(n, atom("a", 9, true)), a[:n], true, true, true, n)
		checkResults(t, "pluses", times(n, atom("a", 1, true)), a[:n-1], false, false, false, -1)
		checkResults(t, "stars and one", append(times(n, atom("a", 0, true)), one("b")), a, false, false, false, -1)
		checkResults(t, "stars and one", append(times(n, atom("a", 0, true)), one("b")), a+"b", true, true, true, most+1)
	}
}

// P5.4: the atoms in reverse order, whatever they are.
func TestReverse(t *testing.T) {
	x, y, z := atom("ab", 0, true), atom("", -5, false), atom(highs, math.MaxInt, true)
	for _, p := range [][2][]api.Atom{
		{nil, nil}, {list(x), list(x)}, {list(x, y), list(y, x)}, {list(x, x), list(x, x)}, {list(x, y, z), list(z, y, x)}, {list(x, y, z, z), list(z, z, y, x)}, {parsed(t, "ab*[cd]"), parsed(t, "[cd]b*a")}, {append(times(99, x), y), append(list(y), times(99, x)...)},
	} {
		if got := pattern.Reverse(p[0]); !slices.Equal(got, p[1]) {
			t.Errorf("Reverse(%s) = %s", show(p[0]), show(got))
		}
		if got := pattern.Reverse(pattern.Reverse(p[0])); !slices.Equal(got, p[0]) {
			t.Errorf("Reverse of Reverse(%s) = %s", show(p[0]), show(got))
		}
	}
}

// R2: no call changes its argument or the spare capacity behind it, and the
// results are new memory.
func TestMemory(t *testing.T) {
	spare := slices.Repeat(parsed(t, "a*b?[c-d]"), 3)
	before := slices.Clone(spare)
	p := spare[:3]
	pattern.Validate(p)
	pattern.Match(p, "abd")
	pattern.Prefix(p, "abd")
	pattern.Suffix(p, "abd")
	pattern.Longest(p, "abd")
	reversed := pattern.Reverse(p)
	again := pattern.Reverse(p)
	for i := range cap(reversed) {
		reversed[:cap(reversed)][i] = one("z")
	}
	if !slices.Equal(spare, before) || !slices.Equal(again, parsed(t, "[c-d]b?a*")) {
		t.Errorf("a call, or a change of its result, changed %s or %s", show(spare), show(again))
	}
	first := parsed(t, "a*\\d")
	for i := range cap(first) {
		first[:cap(first)][i] = one("z")
	}
	pass(t, list(atom("a", 0, true), one(digits)), "a*\\d")
}
