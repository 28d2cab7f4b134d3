package token_test

import (
	"slices"
	"strings"
	"testing"

	"bitext/api"
	"bitext/item"
	"bitext/token"
)

// The tests of this file set the package against a plain statement of the
// promises: what is a word, number, blank or sign is said of whole strings, and
// the longest beginning of a text that is one of them is searched.

func isLetter(b byte) bool { return 'A' <= b && b <= 'Z' || 'a' <= b && b <= 'z' || b >= 128 }

func isDigit(b byte) bool { return '0' <= b && b <= '9' }

func isSpace(b byte) bool { return b == 9 || b == 10 || b == 13 || b == 32 }

func isEither(b byte) bool { return isLetter(b) || isDigit(b) }

// consists reports whether every byte of s fits, or is one of the joints between
// two bytes that fit.
func consists(s string, fits func(byte) bool, joints string) bool {
	for i := range len(s) {
		between := i > 0 && fits(s[i-1]) && i+1 < len(s) && fits(s[i+1])
		if !fits(s[i]) && !(strings.Contains(joints, s[i:i+1]) && between) {
			return false
		}
	}
	return true
}

// kindOf returns the kind of token that a string, which is not empty, is as a
// whole, or 0.
func kindOf(s string) int {
	switch {
	case isLetter(s[0]) && consists(s, isEither, "'-"):
		return api.Word
	case isDigit(s[0]) && consists(s, isDigit, ".,"):
		return api.Number
	case consists(s, isSpace, ""):
		return api.Blank
	case len(s) == 1:
		return api.Sign
	}
	return 0
}

// divide returns the tokens of a text.
func divide(s string) []api.Token {
	var l []api.Token
	for len(s) > 0 {
		n := len(s)
		for kindOf(s[:n]) == 0 {
			n--
		}
		l = append(l, tok(kindOf(s[:n]), s[:n], 0))
		s = s[n:]
	}
	return l
}

// divideAll returns the tokens of a fragment.
func divideAll(f []api.Item) []api.Token {
	var l []api.Token
	for _, x := range f {
		if x.Kind == api.Text {
			l = append(l, divide(x.Text)...)
		} else if slices.Contains(itemKinds, x.Kind) {
			l = append(l, tok(x.Kind, x.Text, x.ID))
		}
	}
	return l
}

// join returns the fragment of a list of tokens.
func join(l []api.Token) []api.Item {
	var f []api.Item
	for _, x := range l {
		switch {
		case slices.Contains(itemKinds, x.Kind):
			f = append(f, other(x.Kind, x.Text, x.ID))
		case !slices.Contains(textKinds, x.Kind) || x.Text == "":
		case len(f) > 0 && f[len(f)-1].Kind == api.Text:
			f[len(f)-1].Text += x.Text
		default:
			f = append(f, text(x.Text))
		}
	}
	return f
}

// checkString sets the tokens of a text against divide.
func checkString(t *testing.T, s string) {
	t.Helper()
	got := token.Tokens(list(text(s)))
	if want := divide(s); !slices.Equal(got, want) {
		t.Fatalf("Tokens(%q) = %v, not %v", s, got, want)
	}
	if f := token.Join(got); s != "" && !slices.Equal(f, list(text(s))) {
		t.Fatalf("Join(Tokens(%q)) = %v", s, f)
	}
}

// P11.1: all short strings of bytes of every class and of all joints.
func TestTokensEveryShortString(t *testing.T) {
	for most, letters := range map[int]string{
		4: "aZ\x80\xff09'-.,_! \t\n\r\x00\x1f\x7f",
		5: "a1'-., !\x00",
		6: "aé1'-., !",
		8: "a1'-",
		9: "1a.,",
	} {
		var extend func(prefix string)
		extend = func(prefix string) {
			checkString(t, prefix)
			for i := range len(letters) {
				if len(prefix) < most {
					extend(prefix + letters[i:i+1])
				}
			}
		}
		extend("")
	}
}

// P11.1: every pair of bytes, alone and between Letters and Digits.
func TestTokensEveryPairOfBytes(t *testing.T) {
	for a := range 256 {
		for b := range 256 {
			pair := string([]byte{byte(a), byte(b)})
			for _, s := range []string{pair, "a" + pair, "1" + pair, "a" + pair + "a", "a" + pair + "1", "1" + pair + "1", "1" + pair + "a", pair[:1] + "a" + pair[1:], pair[:1] + "1" + pair[1:]} {
				checkString(t, s)
			}
		}
	}
}

// alphabet are the items of fragments, valid and not.
var alphabet = list(
	text("a"), text("b-"), text("1"), text(".2"), text(" "), text(""), other(api.Text, "Don't 3rd", 2), other(api.Text, "", 1),
	open(1, "b x"), shut(1, "b"), empty(2, "br"), open(0, "B"), slot("n"), other(api.Slot, "", 1), other(0, "a", 1), other(api.Word, "a", 0), other(api.Sign+1, "", 2),
)

// all returns the fragments of at most n of the given items.
func all[E any](n int, elements []E) [][]E {
	lists := [][]E{nil}
	for from := 0; n > 0; n-- {
		to := len(lists)
		for _, l := range lists[from:to] {
			for _, x := range elements {
				lists = append(lists, append(slices.Clone(l), x))
			}
		}
		from = to
	}
	return lists
}

// P11.1: the tokens of all short fragments, and that Join gives the normal
// fragment back.
func TestEveryFragment(t *testing.T) {
	count := map[bool]int{}
	for _, f := range all(4, alphabet) {
		l := token.Tokens(f)
		if want := divideAll(f); !slices.Equal(l, want) {
			t.Fatalf("Tokens(%v) = %v, not %v", f, l, want)
		}
		good := slices.DeleteFunc(slices.Clone(f), func(x api.Item) bool { return x.Kind < api.Text || x.Kind > api.Slot })
		normal := item.Normalize(good)
		if got := token.Join(l); !slices.Equal(got, normal) {
			t.Fatalf("Join(Tokens(%v)) = %v, not %v", f, got, normal)
		}
		count[slices.Equal(f, normal)]++
	}
	if count[true] < 1000 || count[false] < 1000 {
		t.Errorf("normal fragments and others: %v", count)
	}
}

// P11.1 to P11.3: the calls on all short lists of tokens.
func TestEveryList(t *testing.T) {
	weights := []int{0, 0, 3, 3, 3, 4, 4, 3, 1, 2, 0} // of the kinds from 0 on
	elements := tokens(
		word("a"), word("B"), word(""), tok(api.Word, "a b", 1), number("1"), number("2"), blank(" "), blank(""), sign("."), tok(api.Sign, "-", 3),
		tok(api.Open, "b", 1), tok(api.Close, "b", 1), tok(api.Empty, "", 0), tok(api.Slot, "n", 0), tok(0, "", 0), tok(api.Text, "x", 0), tok(10, "x", 1),
	)
	for _, l := range all(4, elements) {
		got := token.Join(l)
		if want := join(l); !slices.Equal(got, want) {
			t.Fatalf("Join(%v) = %v, not %v", l, got, want)
		}
		if again := item.Normalize(got); !slices.Equal(again, got) {
			t.Fatalf("Join(%v) = %v: not normal", l, got)
		}
		total, count := 0, 0
		for _, x := range l {
			total += weights[x.Kind]
			if x.Kind == api.Word || x.Kind == api.Number {
				count++
			}
		}
		if token.Total(l) != total || token.Count(l) != count {
			t.Fatalf("Total(%v) = %d, Count %d, not %d and %d", l, token.Total(l), token.Count(l), total, count)
		}
	}
}

// R2: arguments and their spare capacity stay as they are, and results are new
// memory: changing one changes neither an argument nor another result.
func TestMemory(t *testing.T) {
	f := list(text("a 1"), text("b!"), open(3, "b"), slot("n"), shut(3, "b"), empty(9, "br"), other(0, "a", 1))
	l := tokens(word("A"), blank(" "), tok(api.Open, "b", 1), tok(api.Slot, "n", 0), number("1"), tok(0, "", 0))
	spare, spareTokens := room(f), room(l)
	calls := map[string]func(f []api.Item, l []api.Token){
		"Tokens":  func(f []api.Item, _ []api.Token) { spoil(token.Tokens(f), tok(77, "spoilt", 77)) },
		"Tokens1": func(f []api.Item, _ []api.Token) { spoil(token.Tokens(f[2:]), tok(77, "spoilt", 77)) },
		"Join":    func(_ []api.Item, l []api.Token) { spoil(token.Join(l), other(77, "spoilt", 77)) },
		"Join1":   func(_ []api.Item, l []api.Token) { spoil(token.Join(l[2:4]), other(77, "spoilt", 77)) },
		"Total":   func(_ []api.Item, l []api.Token) { token.Total(l) },
		"Count":   func(_ []api.Item, l []api.Token) { token.Count(l) },
	}
	wantTokens, wantItems := token.Tokens(f), token.Join(l)
	for name, call := range calls {
		call(spare, spareTokens)
		if !intact(spare, f) || !intact(spareTokens, l) {
			t.Fatalf("%s changed an argument: %v, %v", name, spare[:cap(spare)], spareTokens[:cap(spareTokens)])
		}
		if got := token.Tokens(f); !slices.Equal(got, wantTokens) || !slices.Equal(got, divideAll(f)) {
			t.Fatalf("Tokens behind %s = %v", name, got)
		}
		if got := token.Join(l); !slices.Equal(got, wantItems) || !slices.Equal(got, join(l)) {
			t.Fatalf("Join behind %s = %v", name, got)
		}
	}
}

// room returns a copy of l with spare capacity, which repeats l.
func room[E any](l []E) []E { return slices.Repeat(l, 3)[:len(l)] }

// intact reports whether a list that room made from l is as it was.
func intact[E comparable](made, l []E) bool {
	return slices.Equal(made[:3*len(l)], slices.Repeat(l, 3))
}

// spoil overwrites l and its spare capacity.
func spoil[E any](l []E, x E) {
	for i := range l[:cap(l)] {
		l[:cap(l)][i] = x
	}
}
