package token_test

import (
	"math"
	"slices"
	"strings"
	"testing"

	"bitext/api"
	"bitext/class"
	"bitext/item"
	"bitext/token"
)

func text(s string) api.Item { return api.Item{Kind: api.Text, Text: s} }

func open(n int, s string) api.Item { return api.Item{Kind: api.Open, Text: s, ID: n} }

func shut(n int, s string) api.Item { return api.Item{Kind: api.Close, Text: s, ID: n} }

func empty(n int, s string) api.Item { return api.Item{Kind: api.Empty, Text: s, ID: n} }

func slot(s string) api.Item { return api.Item{Kind: api.Slot, Text: s} }

// other is an item of any kind, mostly one that is not from Text to Slot.
func other(kind int, s string, n int) api.Item { return api.Item{Kind: kind, Text: s, ID: n} }

// list is a fragment.
func list(items ...api.Item) []api.Item { return items }

func word(s string) api.Token { return api.Token{Kind: api.Word, Text: s} }

func number(s string) api.Token { return api.Token{Kind: api.Number, Text: s} }

func blank(s string) api.Token { return api.Token{Kind: api.Blank, Text: s} }

func sign(s string) api.Token { return api.Token{Kind: api.Sign, Text: s} }

// tok is a token of any kind.
func tok(kind int, s string, n int) api.Token { return api.Token{Kind: kind, Text: s, ID: n} }

// tokens is a list of tokens.
func tokens(l ...api.Token) []api.Token { return l }

// textKinds are the kinds of tokens that become text, itemKinds those that
// become items of their own.
var (
	textKinds = []int{api.Word, api.Number, api.Blank, api.Sign}
	itemKinds = []int{api.Open, api.Close, api.Empty, api.Slot}
)

// noItemKinds are the kinds of no item, noTokenKinds those of no token; both
// have kinds below, between and above the others.
var (
	noItemKinds  = []int{math.MinInt, math.MinInt32, -1, 0, api.Word, api.Number, api.Blank, api.Sign, api.Sign + 1, 257, 1<<32 + 1, math.MaxInt}
	noTokenKinds = []int{math.MinInt, math.MinInt32, -6, -1, 0, api.Text, api.Sign + 1, 258, 262, 1<<32 + 2, 1<<32 + 6, math.MaxInt}
)

// checkText checks the tokens of a text, and the fragment that they give.
func checkText(t *testing.T, s string, want ...api.Token) {
	t.Helper()
	if got := token.Tokens(list(text(s))); !slices.Equal(got, want) {
		t.Errorf("Tokens(%q) = %v, not %v", s, got, want)
	}
	var whole []api.Item
	if s != "" {
		whole = list(text(s))
	}
	if got := token.Join(want); !slices.Equal(got, whole) {
		t.Errorf("Join(%v) = %v, not %q", want, got, s)
	}
}

// P11.1: the examples of the chapter.
func TestTokensExamples(t *testing.T) {
	checkText(t, "Don't pay 1,000.50 now!", word("Don't"), blank(" "), word("pay"), blank(" "), number("1,000.50"), blank(" "), word("now"), sign("!"))
	checkText(t, "x--y", word("x"), sign("-"), sign("-"), word("y"))
	checkText(t, "3rd", number("3"), word("rd"))
	checkText(t, "a1-b", word("a1-b"))
	checkText(t, "1.a", number("1"), sign("."), word("a"))
}

// P11.1: a text of one byte is a token of the kind of its class.
func TestTokensEveryByte(t *testing.T) {
	kinds := map[int]int{api.ClassControl: api.Sign, api.ClassSpace: api.Blank, api.ClassDigit: api.Number, api.ClassLetter: api.Word, api.ClassMark: api.Sign}
	for b := range 256 {
		s := string([]byte{byte(b)})
		checkText(t, s, tok(kinds[class.Of(byte(b))], s, 0))
	}
}

// P11.1: ordinary texts, and the empty one.
func TestTokensTexts(t *testing.T) {
	checkText(t, "")
	checkText(t, "red car", word("red"), blank(" "), word("car"))
	checkText(t, "Äpfel, 2 kg?", word("Äpfel"), sign(","), blank(" "), number("2"), blank(" "), word("kg"), sign("?"))
	checkText(t, "(a_b)", sign("("), word("a"), sign("_"), word("b"), sign(")"))
	checkText(t, "3.5 %", number("3.5"), blank(" "), sign("%"))
	checkText(t, "\x80\xff", word("\x80\xff"))
	checkText(t, "\xe2\x80\x99s", word("\xe2\x80\x99s"))
}

// P11.1: ' and - inside words, at their ends, and two of them side by side.
func TestTokensWords(t *testing.T) {
	for _, joint := range []string{"'", "-"} {
		for _, s := range []string{"a" + joint + "b", "a" + joint + "1", "a1" + joint + "b", "a1" + joint + "2", "é" + joint + "\xff", "a" + joint + "b" + joint + "c", "a" + joint + "1" + joint + "2"} {
			checkText(t, s, word(s))
		}
		checkText(t, joint+"a", sign(joint), word("a"))
		checkText(t, "a"+joint, word("a"), sign(joint))
		checkText(t, "a1"+joint, word("a1"), sign(joint))
		checkText(t, joint+"a"+joint, sign(joint), word("a"), sign(joint))
		checkText(t, "a"+joint+" b", word("a"), sign(joint), blank(" "), word("b"))
		checkText(t, "a "+joint+"b", word("a"), blank(" "), sign(joint), word("b"))
		checkText(t, "a"+joint+".b", word("a"), sign(joint), sign("."), word("b"))
		checkText(t, "a"+joint+"\x00b", word("a"), sign(joint), sign("\x00"), word("b"))
		checkText(t, "1"+joint+"a", number("1"), sign(joint), word("a"))
		checkText(t, "1"+joint+"2", number("1"), sign(joint), number("2"))
		checkText(t, "a"+joint+"b"+joint, word("a"+joint+"b"), sign(joint))
		for _, second := range []string{"'", "-"} {
			checkText(t, "a"+joint+second+"b", word("a"), sign(joint), sign(second), word("b"))
			checkText(t, "a"+joint+second+"1", word("a"), sign(joint), sign(second), number("1"))
			checkText(t, "a1"+joint+second, word("a1"), sign(joint), sign(second))
			checkText(t, joint+second+"a", sign(joint), sign(second), word("a"))
			checkText(t, "a"+joint+"b"+second+"c", word("a"+joint+"b"+second+"c"))
			checkText(t, "a"+joint+"b"+second+second+"c"+joint+"d", word("a"+joint+"b"), sign(second), sign(second), word("c"+joint+"d"))
			checkText(t, "a"+joint+second+joint+"b", word("a"), sign(joint), sign(second), sign(joint), word("b"))
		}
	}
	for _, s := range []string{".", ",", "_", "`", "/", "\x00"} {
		checkText(t, "a"+s+"b", word("a"), sign(s), word("b"))
		checkText(t, "a"+s+"1", word("a"), sign(s), number("1"))
	}
	checkText(t, "3rd", number("3"), word("rd"))
	checkText(t, "3rd-4th", number("3"), word("rd-4th"))
	checkText(t, "12a3'4b", number("12"), word("a3'4b"))
	checkText(t, "a1.2", word("a1"), sign("."), number("2"))
	checkText(t, "a1,2-b", word("a1"), sign(","), number("2"), sign("-"), word("b"))
}

// P11.1: . and , inside numbers, at their ends, two of them side by side, and
// Letters behind them.
func TestTokensNumbers(t *testing.T) {
	checkText(t, "0123456789", number("0123456789"))
	for _, joint := range []string{".", ","} {
		for _, s := range []string{"1" + joint + "2", "12" + joint + "345", "1" + joint + "2" + joint + "3", "0" + joint + "0" + joint + "00"} {
			checkText(t, s, number(s))
			checkText(t, s+"a", number(s), word("a"))
			checkText(t, s+"é'1", number(s), word("é'1"))
			checkText(t, s+joint+"a", number(s), sign(joint), word("a"))
			checkText(t, s+"-a", number(s), sign("-"), word("a"))
			checkText(t, s+" a", number(s), blank(" "), word("a"))
		}
		checkText(t, joint+"1", sign(joint), number("1"))
		checkText(t, "1"+joint, number("1"), sign(joint))
		checkText(t, joint+"1"+joint, sign(joint), number("1"), sign(joint))
		checkText(t, "1"+joint+"a", number("1"), sign(joint), word("a"))
		checkText(t, "1"+joint+"a1", number("1"), sign(joint), word("a1"))
		checkText(t, joint+"a", sign(joint), word("a"))
		checkText(t, "a"+joint+"1", word("a"), sign(joint), number("1"))
		checkText(t, "1"+joint+" 2", number("1"), sign(joint), blank(" "), number("2"))
		checkText(t, "1 "+joint+"2", number("1"), blank(" "), sign(joint), number("2"))
		checkText(t, "1"+joint+"-2", number("1"), sign(joint), sign("-"), number("2"))
		for _, second := range []string{".", ","} {
			checkText(t, "1"+joint+second+"2", number("1"), sign(joint), sign(second), number("2"))
			checkText(t, "1"+joint+second+"a", number("1"), sign(joint), sign(second), word("a"))
			checkText(t, "1"+joint+second, number("1"), sign(joint), sign(second))
			checkText(t, joint+second+"1", sign(joint), sign(second), number("1"))
			checkText(t, "1"+joint+"2"+second+"3", number("1"+joint+"2"+second+"3"))
			checkText(t, "1"+joint+"2"+second+second+"3"+joint+"4", number("1"+joint+"2"), sign(second), sign(second), number("3"+joint+"4"))
			checkText(t, "1"+joint+second+joint+"2", number("1"), sign(joint), sign(second), sign(joint), number("2"))
		}
	}
	for _, s := range []string{"'", "-", ":", "/", "%", "\x00"} {
		checkText(t, "1"+s+"2", number("1"), sign(s), number("2"))
	}
	checkText(t, "12a", number("12"), word("a"))
	checkText(t, "1é", number("1"), word("é"))
	checkText(t, "1\xff2.5", number("1"), word("\xff2"), sign("."), number("5"))
	checkText(t, "1.5e10", number("1.5"), word("e10"))
}

// P11.1: a run of spaces is one token, whatever bytes it has.
func TestTokensBlanks(t *testing.T) {
	spaces := []string{"\t", "\n", "\r", " "}
	for _, s := range spaces {
		checkText(t, s+s+s, blank(s+s+s))
		for _, second := range spaces {
			checkText(t, s+second, blank(s+second))
			checkText(t, "a"+s+second+"1"+second+"!"+s, word("a"), blank(s+second), number("1"), blank(second), sign("!"), blank(s))
		}
	}
	checkText(t, " \t\r\n", blank(" \t\r\n"))
	checkText(t, " \x0b \x0c\x00 \x7f", blank(" "), sign("\x0b"), blank(" "), sign("\x0c"), sign("\x00"), blank(" "), sign("\x7f"))
	checkText(t, " . , ' - ", blank(" "), sign("."), blank(" "), sign(","), blank(" "), sign("'"), blank(" "), sign("-"), blank(" "))
}

// P11.1: every Mark and every Control is a token of its own, beside any other.
func TestTokensSigns(t *testing.T) {
	var signs []api.Token
	for b := range 256 {
		if k := class.Of(byte(b)); k == api.ClassMark || k == api.ClassControl {
			signs = append(signs, sign(string([]byte{byte(b)})))
		}
	}
	for _, x := range signs {
		checkText(t, x.Text+x.Text+x.Text, x, x, x)
		for _, y := range signs {
			checkText(t, x.Text+y.Text, x, y)
		}
	}
	checkText(t, "...", sign("."), sign("."), sign("."))
	checkText(t, "?!\x00\x7f-", sign("?"), sign("!"), sign("\x00"), sign("\x7f"), sign("-"))
}

// checkTokens checks the tokens of a fragment.
func checkTokens(t *testing.T, f []api.Item, want ...api.Token) {
	t.Helper()
	if got := token.Tokens(f); !slices.Equal(got, want) {
		t.Errorf("Tokens(%v) = %v, not %v", f, got, want)
	}
}

// P11.1: the tokens of fragments, valid or not, also of empty ones.
func TestTokensFragments(t *testing.T) {
	checkTokens(t, nil)
	checkTokens(t, list())
	checkTokens(t, list(text("")))
	checkTokens(t, list(text(""), other(api.Text, "", 3), text("")))
	checkTokens(t, list(text(""), slot("n"), text("")), tok(api.Slot, "n", 0))
	checkTokens(t, list(open(3, "b x"), text("a1, "), empty(4, "br"), text("2"), shut(3, "b"), slot("n"), text(".")), tok(api.Open, "b x", 3), word("a1"), sign(","), blank(" "), tok(api.Empty, "br", 4), number("2"), tok(api.Close, "b", 3), tok(api.Slot, "n", 0), sign("."))
	// Nothing joins the texts of different items, also if nothing is between them.
	for _, between := range [][]api.Item{nil, list(text("")), list(other(0, "x", 0)), list(other(api.Sign, "-", 1))} {
		for _, s := range []string{"a b", "a 1", "a1 b", "a' b", "a 'b", "a -1", "1 2", "1 a", "1. 2", "1 ,2", "! !", "! -", "é \xa9"} {
			left, right, _ := strings.Cut(s, " ")
			f := slices.Concat(list(text(left)), between, list(text(right)))
			checkTokens(t, f, append(token.Tokens(list(text(left))), token.Tokens(list(text(right)))...)...)
		}
		checkTokens(t, slices.Concat(list(text("a")), between, list(text("b"))), word("a"), word("b"))
		checkTokens(t, slices.Concat(list(text("a-")), between, list(text("b"))), word("a"), sign("-"), word("b"))
		checkTokens(t, slices.Concat(list(text("1")), between, list(text(".5"))), number("1"), sign("."), number("5"))
		checkTokens(t, slices.Concat(list(text("1")), between, list(text("2"))), number("1"), number("2"))
		checkTokens(t, slices.Concat(list(text(" ")), between, list(text("\n "))), blank(" "), blank("\n "))
	}
	for _, x := range list(open(1, "b"), shut(1, "b"), empty(1, "b"), slot("n")) {
		checkTokens(t, list(text("a-"), x, text("b 1."), x, text("2")), word("a"), sign("-"), api.Token(x), word("b"), blank(" "), number("1"), sign("."), api.Token(x), number("2"))
	}
}

// P11.1: the fields of tags and slots stay, and text has no number, whatever
// they are in fragments that are not valid.
func TestTokensInvalid(t *testing.T) {
	for _, n := range []int{math.MinInt, -1, 0, 1, api.MaxID, api.MaxID + 1, math.MaxInt} {
		for _, s := range []string{"", "b", "b x", "B", "a-1, 2", "\x00\xff", " ", strings.Repeat("n", 2*api.MaxTag)} {
			for _, kind := range itemKinds {
				checkTokens(t, list(other(kind, s, n)), tok(kind, s, n))
				checkTokens(t, list(other(kind, s, n), text("a"), other(kind, s, n)), tok(kind, s, n), word("a"), tok(kind, s, n))
			}
			for _, kind := range noItemKinds {
				checkTokens(t, list(other(kind, s, n)))
				checkTokens(t, list(text("a"), other(kind, s, n), slot("n"), other(kind, s, n)), word("a"), tok(api.Slot, "n", 0))
			}
			checkTokens(t, list(other(api.Text, s, n)), token.Tokens(list(text(s)))...)
		}
		checkTokens(t, list(other(api.Text, "a 1!", n)), word("a"), blank(" "), number("1"), sign("!"))
	}
	checkTokens(t, list(shut(2, "b"), open(1, "b"), open(1, "i"), shut(2, "i"), empty(1, "b")), tok(api.Close, "b", 2), tok(api.Open, "b", 1), tok(api.Open, "i", 1), tok(api.Close, "i", 2), tok(api.Empty, "b", 1))
}

// P11.1: long texts and long lists take no longer than their lengths ask for.
func TestTokensLong(t *testing.T) {
	const n = 1 << 18
	for s, want := range map[string]int{"a": 1, "a-": 2, "a1'": 2, "1": 1, "1.": 2, "1,2.": 2, " ": 1, "!": n, "-": n, "a--": 3 * n, "1..": 3 * n, "1a ": 3 * n, "'": n} {
		l := token.Tokens(list(text(strings.Repeat(s, n))))
		if len(l) != want {
			t.Errorf("%d tokens of %q times %d, not %d", len(l), s, n, want)
		}
		if f := token.Join(l); len(f) != 1 || f[0] != text(strings.Repeat(s, n)) {
			t.Errorf("Join of the tokens of %q times %d: %d items", s, n, len(f))
		}
	}
	f := slices.Repeat(list(text("a"), slot("n"), text("b"), text("1")), n)
	if l := token.Tokens(f); len(l) != 4*n || token.Total(l) != (4+4+4+3)*n || token.Count(l) != 3*n || len(token.Join(l)) != 2*n+1 {
		t.Errorf("%d tokens of %d items, total %d, count %d", len(l), 4*n, token.Total(l), token.Count(l))
	}
}

// checkJoin checks the fragment of a list of tokens, and that it is normal.
func checkJoin(t *testing.T, l []api.Token, want ...api.Item) {
	t.Helper()
	got := token.Join(l)
	if !slices.Equal(got, want) {
		t.Errorf("Join(%v) = %v, not %v", l, got, want)
	}
	if again := item.Normalize(got); !slices.Equal(again, got) {
		t.Errorf("Join(%v) = %v: not normal", l, got)
	}
}

// P11.1: Join of ordinary lists, and of lists that Tokens would never return.
func TestJoinLists(t *testing.T) {
	checkJoin(t, nil)
	checkJoin(t, tokens())
	checkJoin(t, tokens(word("a"), blank(" "), number("1"), sign("!")), text("a 1!"))
	checkJoin(t, tokens(tok(api.Open, "b x", 3), word("a"), tok(api.Close, "b", 3), tok(api.Empty, "br", 4), tok(api.Slot, "n", 0)), open(3, "b x"), text("a"), shut(3, "b"), empty(4, "br"), slot("n"))
	checkJoin(t, tokens(word("a"), tok(api.Slot, "n", 0), word("b"), sign("-"), tok(api.Slot, "m", 0), number("1"), sign(".")), text("a"), slot("n"), text("b-"), slot("m"), text("1."))
	checkJoin(t, tokens(word("a"), word("b"), number("1"), number("2"), sign("."), number("3"), blank(" "), blank(" "), sign("'")), text("ab12.3  '"))
	checkJoin(t, tokens(word("1"), word(" "), number("a"), blank("!"), sign("<b>"), sign("a b")), text("1 a!<b>a b"))
	checkJoin(t, tokens(word("\x00"), word("\xc3"), word("\xa4"), number("\xff\n")), text("\x00ä\xff\n"))
	for _, kind := range textKinds {
		checkJoin(t, tokens(tok(kind, "", 0)))
		checkJoin(t, tokens(tok(kind, "", 5), word(""), tok(kind, "", 0)))
		checkJoin(t, tokens(tok(kind, "", 0), tok(api.Slot, "n", 0), tok(kind, "", 0), tok(api.Slot, "n", 0)), slot("n"), slot("n"))
		checkJoin(t, tokens(tok(kind, "", 0), word("a"), tok(kind, "", 0), word("b"), tok(kind, "", 0)), text("ab"))
		for _, n := range []int{math.MinInt, -1, 1, math.MaxInt} {
			checkJoin(t, tokens(tok(kind, "x y", n)), text("x y"))
			checkJoin(t, tokens(tok(kind, "x", n), tok(kind, "y", 0), tok(kind, "z", n+2)), text("xyz"))
		}
	}
	for _, kind := range itemKinds {
		for _, n := range []int{math.MinInt, -1, 0, 1, math.MaxInt} {
			for _, s := range []string{"", "b", "b x", "B", "a-1, 2", "\x00\xff"} {
				checkJoin(t, tokens(tok(kind, s, n)), other(kind, s, n))
				checkJoin(t, tokens(tok(kind, s, n), tok(kind, s, n)), other(kind, s, n), other(kind, s, n))
			}
		}
	}
}

// P11.1: Join leaves out the tokens of other kinds, and joins what is around
// them.
func TestJoinOtherKinds(t *testing.T) {
	for _, kind := range noTokenKinds {
		for _, s := range []string{"", "b", "a b"} {
			for _, n := range []int{0, 1, -1} {
				bad := tok(kind, s, n)
				checkJoin(t, tokens(bad))
				checkJoin(t, tokens(bad, word("a"), bad, word("b"), bad), text("ab"))
				checkJoin(t, tokens(tok(api.Slot, "n", 0), bad, tok(api.Open, "b", 1)), slot("n"), open(1, "b"))
			}
		}
	}
}

// P11.2: the weight of every kind, whatever the other fields are.
func TestWeightOfKinds(t *testing.T) {
	weights := map[int]int{api.Word: 4, api.Number: 3, api.Blank: 1, api.Sign: 2, api.Slot: 4, api.Open: 3, api.Close: 3, api.Empty: 3}
	check := func(kind int) {
		for _, x := range tokens(tok(kind, "", 0), tok(kind, "a", 0), tok(kind, "A-1, !", 1), tok(kind, " ", -1), tok(kind, "b", math.MaxInt), tok(kind, "12", math.MinInt)) {
			if got := token.Weight(x); got != weights[kind] {
				t.Errorf("Weight(%v) = %d, not %d", x, got, weights[kind])
			}
			if got := token.Total(tokens(x)); got != weights[kind] {
				t.Errorf("Total(%v) = %d, not %d", x, got, weights[kind])
			}
			want := 0
			if kind == api.Word || kind == api.Number {
				want = 1
			}
			if got := token.Count(tokens(x)); got != want {
				t.Errorf("Count(%v) = %d, not %d", x, got, want)
			}
		}
	}
	for kind := -300; kind <= 300; kind++ {
		check(kind)
	}
	for _, kind := range noTokenKinds {
		check(kind)
	}
}

// P11.2: Total and Count of lists.
func TestTotalAndCount(t *testing.T) {
	var every []api.Token
	for kind := -1; kind <= 10; kind++ {
		every = append(every, tok(kind, "a", 1))
	}
	for i, x := range []struct {
		l            []api.Token
		total, count int
	}{
		{nil, 0, 0}, {tokens(), 0, 0}, {every, 23, 2}, {slices.Concat(every, every), 46, 4}, {tokens(tok(api.Text, "a", 0), tok(0, "", 0), tok(-1, "", 0), tok(10, "", 0)), 0, 0},
		{tokens(word("red"), blank(" "), word("car")), 9, 2}, {tokens(word("red"), blank(" "), word("car"), word("")), 13, 3}, {tokens(number("1"), number("1")), 6, 2}, {tokens(blank(" "), sign("!"), sign("!")), 5, 0}, {tokens(tok(api.Slot, "n", 0), tok(api.Open, "b", 1), tok(api.Empty, "b", 2), tok(api.Close, "b", 1)), 13, 0},
		{token.Tokens(list(text("Don't pay 1,000.50 now!"))), 20, 4}, {slices.Repeat(tokens(word("a"), number("1"), sign("."), blank(" ")), 1<<16), 10 << 16, 2 << 16},
	} {
		if got := token.Total(x.l); got != x.total {
			t.Errorf("%d: Total = %d, not %d", i, got, x.total)
		}
		if got := token.Count(x.l); got != x.count {
			t.Errorf("%d: Count = %d, not %d", i, got, x.count)
		}
	}
}

// everyKind are the kinds of tokens, and others.
var everyKind = slices.Concat(textKinds, itemKinds, noTokenKinds)

// P11.3: every pair of kinds, texts and numbers; the number alone does not
// count.
func TestSameFields(t *testing.T) {
	texts := []string{"", "a", "A", "b", "aB", "ab", "a ", "é", "É", "\xc3", "1", "\x00"}
	numbers := []int{math.MinInt, -1, 0, 1, 2, math.MaxInt}
	for i, kind := range everyKind {
		for j, second := range everyKind {
			for k, s := range texts {
				for l, u := range texts {
					for _, n := range numbers {
						a, b := tok(kind, s, n), tok(second, u, n)
						if got, want := token.Same(a, b), i == j && k == l; got != want {
							t.Fatalf("Same(%v, %v) = %v", a, b, got)
						}
						a.ID = 1
						if got, want := token.Same(a, b), i == j && k == l; got != want {
							t.Fatalf("Same(%v, %v) = %v", a, b, got)
						}
					}
				}
			}
		}
	}
}

// P11.3: only words are folded, and only from A to Z.
func TestKeyOfKinds(t *testing.T) {
	for s, folded := range map[string]string{
		"": "", "a": "a", "A": "a", "Don't": "don't", "AbÄ": "abÄ", "X-Y2": "x-y2", "@AZ[`az{": "@az[`az{", "\xc4\xff": "\xc4\xff", "1,000.50": "1,000.50", " \n": " \n", "b Q=\"X\"": "b q=\"x\"", "\x00Z": "\x00z",
	} {
		for _, n := range []int{math.MinInt, -1, 0, 1, math.MaxInt} {
			for _, kind := range everyKind {
				want := s
				if kind == api.Word {
					want = folded
				}
				if got := token.Key(tok(kind, s, n)); got != want {
					t.Errorf("Key(%d, %q, %d) = %q, not %q", kind, s, n, got, want)
				}
			}
		}
	}
}
