package document

import (
	"bitext/api"
	"bitext/markup"
	"bitext/resource"
	"bitext/sheet"
)

// syntax is what the package of a format does.
type syntax struct {
	split  func(data string) ([]api.Part, int, api.Errno)
	decode func(raw string) ([]api.Item, int, api.Errno)
	encode func(f []api.Item) (string, api.Errno)
	cuts   func(raw string) ([]int, api.Errno)
}

// syntaxOf returns the syntax of a format, if there is such a format.
func syntaxOf(format int) (s syntax, ok bool) {
	switch format {
	case api.Markup:
		return syntax{split: markup.Split, decode: markup.Decode, encode: markup.Encode, cuts: markup.Cuts}, true
	case api.Resource:
		return syntax{split: resource.Split, decode: resource.Decode, encode: resource.Encode, cuts: resource.Cuts}, true
	case api.Sheet:
		return syntax{split: sheet.Split, decode: sheet.Decode, encode: sheet.Encode, cuts: sheet.Cuts}, true
	}
	return syntax{}, false
}
