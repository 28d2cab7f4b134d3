package resource

import "bitext/api"

// Split returns the parts of a resource file: its raw values, and the skeleton
// around them. If data is no resource file, at is the offset of the first line, or
// of the first element of a raw value, that cannot be read.
func Split(data string) (parts []api.Part, at int, e api.Errno) {
	if len(data) > api.MaxDocument {
		return nil, 0, api.ErrLimit
	}
	r := scanner{s: data}
	seen := map[string]bool{}
	skeleton := 0 // where the skeleton behind the last unit begins
	for r.more() {
		if r.skipUntranslated() {
			continue
		}
		line := r.at
		key, ok := r.readKey()
		if !ok {
			return nil, line, api.ErrSyntax
		}
		if seen[key] {
			return nil, line, api.ErrDuplicate
		}
		seen[key] = true
		from := r.at
		raw := r.readRaw()
		if _, at, e = Decode(raw); e != api.OK {
			return nil, from + at, e
		}
		parts = append(parts, api.Part{Raw: data[skeleton:from]}, api.Part{Unit: true, Key: key, Raw: raw})
		skeleton = r.at
		r.skipEnd()
	}
	return append(parts, api.Part{Raw: data[skeleton:]}), 0, api.OK
}
