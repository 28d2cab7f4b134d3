package class_test

import (
	"slices"
	"strings"
	"testing"

	"bitext/api"
	"bitext/class"
)

// layout writes out the class of every byte: its rows cover 0 to 255 in order,
// so both ends of each row are borders between classes.
var layout = []struct {
	first, last byte
	class       int
}{
	{0, 8, api.ClassControl},
	{9, 10, api.ClassSpace},
	{11, 12, api.ClassControl},
	{13, 13, api.ClassSpace},
	{14, 31, api.ClassControl},
	{32, 32, api.ClassSpace},
	{33, 47, api.ClassMark},
	{48, 57, api.ClassDigit},
	{58, 64, api.ClassMark},
	{65, 90, api.ClassLetter},
	{91, 96, api.ClassMark},
	{97, 122, api.ClassLetter},
	{123, 126, api.ClassMark},
	{127, 127, api.ClassControl},
	{128, 255, api.ClassLetter},
}

// classes returns the class of every byte according to layout.
func classes(t *testing.T) []int {
	t.Helper()
	var all []int
	for _, row := range layout {
		if int(row.first) != len(all) {
			t.Fatalf("the layout has a gap before %d", row.first)
		}
		for range int(row.last-row.first) + 1 {
			all = append(all, row.class)
		}
	}
	if len(all) != 256 {
		t.Fatalf("the layout has %d bytes", len(all))
	}
	return all
}

// borders returns the bytes at both ends of each row of layout, each once.
func borders() []byte {
	var b []byte
	for _, row := range layout {
		b = append(b, row.first, row.last)
	}
	return slices.Compact(b)
}

// words calls visit for every string of at most most of the letters.
func words(letters []byte, most int, visit func(string)) {
	var extend func(prefix string)
	extend = func(prefix string) {
		visit(prefix)
		if len(prefix) == most {
			return
		}
		for _, b := range letters {
			extend(prefix + string([]byte{b}))
		}
	}
	extend("")
}

// P1.1: the class of every byte.
func TestOfEveryByte(t *testing.T) {
	for b, want := range classes(t) {
		if got := class.Of(byte(b)); got != want {
			t.Errorf("Of(%d) = %d, not %d", b, got, want)
		}
	}
}

// P1.1: the examples of the chapter.
func TestOfExamples(t *testing.T) {
	for b, want := range map[byte]int{'-': api.ClassMark, 200: api.ClassLetter, 10: api.ClassSpace, 0: api.ClassControl} {
		if got := class.Of(b); got != want {
			t.Errorf("Of(%d) = %d, not %d", b, got, want)
		}
	}
}

// P1.1: Lower moves A to Z, and no other byte.
func TestLowerEveryByte(t *testing.T) {
	const upper, lower = "ABCDEFGHIJKLMNOPQRSTUVWXYZ", "abcdefghijklmnopqrstuvwxyz"
	for b := range 256 {
		want := byte(b)
		if i := strings.IndexByte(upper, want); i >= 0 {
			want = lower[i]
		}
		// Neighbours show whether Lower goes by bytes, also inside a rune.
		for _, frame := range []string{"", "Q", "\xc3", "\xff"} {
			rest := class.Lower(frame)
			in, out := frame+string([]byte{byte(b)})+frame, rest+string([]byte{want})+rest
			if got := class.Lower(in); got != out {
				t.Errorf("Lower(%q) = %q, not %q", in, got, out)
			}
		}
	}
}

func TestLowerStrings(t *testing.T) {
	for s, want := range map[string]string{
		"":                       "",
		"   ":                    "   ",
		"AbÄ":                    "abÄ",
		"Hello, WORLD 1!":        "hello, world 1!",
		"@AZ[`az{":               "@az[`az{",
		"\xc4\xd6\xdc\xff\x80":   "\xc4\xd6\xdc\xff\x80",
		"\x00A\x7fZ\x80":         "\x00a\x7fz\x80",
		strings.Repeat("A", 999): strings.Repeat("a", 999),
	} {
		if got := class.Lower(s); got != want {
			t.Errorf("Lower(%q) = %q, not %q", s, got, want)
		}
	}
}

// P1.2: which bytes may begin a name, and which may follow.
func TestIsNameEveryByte(t *testing.T) {
	const first = "abcdefghijklmnopqrstuvwxyz"
	const other = first + "0123456789-"
	for b := range 256 {
		s := string([]byte{byte(b)})
		begins, follows := strings.Contains(first, s), strings.Contains(other, s)
		for name, want := range map[string]bool{
			s:                                      begins,
			s + "b":                                begins,
			s + "-9":                               begins,
			"a" + s:                                follows,
			"z" + s + "-0":                         follows,
			strings.Repeat("a", api.MaxName-1) + s: follows,
			s + strings.Repeat("a", api.MaxName):   false,
		} {
			if got := class.IsName(name); got != want {
				t.Errorf("IsName(%q) = %v", name, got)
			}
		}
	}
}

// P1.2: the lengths from nothing to more than MaxName bytes.
func TestIsNameLengths(t *testing.T) {
	for n := range 3 * api.MaxName {
		want := n >= 1 && n <= api.MaxName
		if got := class.IsName(strings.Repeat("m", n)); got != want {
			t.Errorf("IsName of %d bytes = %v", n, got)
		}
	}
}

func TestIsNameStrings(t *testing.T) {
	names := []string{"a", "z", "h-1", "a-", "a--", "a0", "z9z", "anna", "a" + strings.Repeat("-", api.MaxName-1)}
	others := []string{
		"", " ", "-", "0", "1h", "-a", "A", "aB", "Anna", "a_b", "a.b", "a b", " a", "a ", "a\n", "a\x00",
		"é", "aé", "\x80", "a\xff", strings.Repeat("1", api.MaxName), strings.Repeat(" ", api.MaxName),
	}
	for _, s := range names {
		if !class.IsName(s) {
			t.Errorf("IsName(%q) is false", s)
		}
	}
	for _, s := range others {
		if class.IsName(s) {
			t.Errorf("IsName(%q) is true", s)
		}
	}
}

// trim finds the first and the last byte that is not a Space, as P1.3 puts it.
func trim(s string, all []int) (from, to int) {
	found := false
	for i := range len(s) {
		if all[s[i]] == api.ClassSpace {
			continue
		}
		if !found {
			from, found = i, true
		}
		to = i + 1
	}
	return from, to
}

func checkTrim(t *testing.T, s string, from, to int) {
	t.Helper()
	if f, e := class.Trim(s); f != from || e != to {
		t.Errorf("Trim(%q) = %d, %d, not %d, %d", s, f, e, from, to)
	}
}

// P1.3: the examples, and strings with no byte but spaces.
func TestTrimStrings(t *testing.T) {
	for s, want := range map[string][2]int{
		"":                {0, 0},
		" ":               {0, 0},
		"  ":              {0, 0},
		"\t\n\r ":         {0, 0},
		"  a b ":          {2, 5},
		"a":               {0, 1},
		"a b":             {0, 3},
		"a ":              {0, 1},
		" a":              {1, 2},
		"\t\r\n x\ty \n":  {4, 7},
		"\x0b\x0c":        {0, 2},
		" \x00 ":          {1, 2},
		" \x7f\x85\xa0\n": {1, 4},
		" - ":             {1, 2},
	} {
		checkTrim(t, s, want[0], want[1])
	}
	checkTrim(t, strings.Repeat(" ", 5000), 0, 0)
}

// P1.3: every byte at the beginning, in the middle, at the end and alone.
func TestTrimEveryByte(t *testing.T) {
	all := classes(t)
	for b, k := range all {
		s := string([]byte{byte(b)})
		if k == api.ClassSpace {
			checkTrim(t, s, 0, 0)
			checkTrim(t, s+s+"x"+s+"y"+s, 2, 5)
			continue
		}
		checkTrim(t, s, 0, 1)
		checkTrim(t, " "+s+" ", 1, 2)
		checkTrim(t, s+" x "+s, 0, 5)
	}
}

// P1.3: all short strings of bytes at the borders of the classes.
func TestTrimShortStrings(t *testing.T) {
	all := classes(t)
	words(borders(), 3, func(s string) {
		from, to := trim(s, all)
		checkTrim(t, s, from, to)
	})
	words([]byte(" \t\na"), 7, func(s string) {
		from, to := trim(s, all)
		checkTrim(t, s, from, to)
	})
}

// checkRuns checks that the runs of s cover it in order, that each has bytes of
// one class only, and that its neighbour has another one.
func checkRuns(t *testing.T, s string, all []int) {
	t.Helper()
	end, before := 0, 0
	for _, r := range class.Runs(s) {
		if r.From != end || r.To <= r.From || r.To > len(s) {
			t.Fatalf("Runs(%q) = %v: not in order", s, class.Runs(s))
		}
		k := all[s[r.From]]
		for i := r.From; i < r.To; i++ {
			if all[s[i]] != k {
				t.Errorf("Runs(%q) = %v: two classes in one run", s, class.Runs(s))
			}
		}
		if k == before {
			t.Errorf("Runs(%q) = %v: neighbours of one class", s, class.Runs(s))
		}
		end, before = r.To, k
	}
	if end != len(s) {
		t.Errorf("Runs(%q) = %v: ends at %d", s, class.Runs(s), end)
	}
}

// P1.4: the example, every class, and strings without a border.
func TestRunsStrings(t *testing.T) {
	for s, want := range map[string][]api.Range{
		"":                 {},
		"a":                {{From: 0, To: 1}},
		"ab 12":            {{From: 0, To: 2}, {From: 2, To: 3}, {From: 3, To: 5}},
		" \t\r\n":          {{From: 0, To: 4}},
		"   ":              {{From: 0, To: 3}},
		"Aé\xffz":          {{From: 0, To: 5}},
		"\x00\x1f\x7f\x0b": {{From: 0, To: 4}},
		"09/:":             {{From: 0, To: 2}, {From: 2, To: 4}},
		"Don't":            {{From: 0, To: 3}, {From: 3, To: 4}, {From: 4, To: 5}},
		"\x00 a0-":         {{From: 0, To: 1}, {From: 1, To: 2}, {From: 2, To: 3}, {From: 3, To: 4}, {From: 4, To: 5}},
	} {
		if got := class.Runs(s); !slices.Equal(got, want) {
			t.Errorf("Runs(%q) = %v, not %v", s, got, want)
		}
	}
}

// P1.4: all pairs of bytes, and all short strings of bytes at the borders.
func TestRunsShortStrings(t *testing.T) {
	all := classes(t)
	for a := range 256 {
		for b := range 256 {
			checkRuns(t, string([]byte{byte(a), byte(b)}), all)
		}
	}
	words(borders(), 3, func(s string) { checkRuns(t, s, all) })
	words([]byte("a\xff0- \x00"), 6, func(s string) { checkRuns(t, s, all) })
}

// R2: a result of Runs shares no memory with a later one.
func TestRunsIsNewMemory(t *testing.T) {
	first := class.Runs("ab 12")
	for i := range first {
		first[i] = api.Range{From: -1, To: -1}
	}
	checkRuns(t, "ab 12", classes(t))
	if got := class.Runs("ab 12"); len(got) != 3 || got[0] != (api.Range{From: 0, To: 2}) {
		t.Errorf("Runs after a change of its result = %v", got)
	}
}
