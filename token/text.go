package token

import (
	"strings"

	"bitext/api"
	"bitext/class"
)

// The bytes of which a single one may stand inside a word or a number.
const (
	wordJoints   = "'-"
	numberJoints = ".,"
)

// appendText appends the tokens of a text.
func appendText(tokens []api.Token, text string) []api.Token {
	for text != "" {
		kind, size := first(text)
		tokens = append(tokens, api.Token{Kind: kind, Text: text[:size]})
		text = text[size:]
	}
	return tokens
}

// first returns the kind of the first token of a text that is not empty, and the
// number of its bytes. The first byte alone decides on the kind.
func first(text string) (kind, size int) {
	switch class.Of(text[0]) {
	case api.ClassLetter:
		return api.Word, run(text, isWordByte, wordJoints)
	case api.ClassDigit:
		return api.Number, run(text, isDigit, numberJoints)
	case api.ClassSpace:
		return api.Blank, run(text, isSpace, "")
	}
	return api.Sign, 1
}

// run returns how many bytes at the beginning of a text, whose first byte fits,
// fit or are single joints between two bytes that fit.
func run(text string, fits func(byte) bool, joints string) int {
	for i := range len(text) {
		if !fits(text[i]) && !isJoint(text[i:], fits, joints) {
			return i
		}
	}
	return len(text)
}

// isJoint reports whether a text begins with a joint and a byte that fits. As
// that byte follows every joint of a run, the byte before a joint fits, too.
func isJoint(text string, fits func(byte) bool, joints string) bool {
	return strings.IndexByte(joints, text[0]) >= 0 && len(text) > 1 && fits(text[1])
}

func isWordByte(b byte) bool { return class.Of(b) == api.ClassLetter || isDigit(b) }

func isDigit(b byte) bool { return class.Of(b) == api.ClassDigit }

func isSpace(b byte) bool { return class.Of(b) == api.ClassSpace }
