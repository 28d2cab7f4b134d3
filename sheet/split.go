package sheet

import (
	"strconv"

	"bitext/api"
)

// header is what the first record of a table says of the others.
type header struct {
	fields int // of every record
	column int // of the texts, counted from 0
}

// Split returns the parts of a table: the raw contents of its text fields, and the
// skeleton around them. If data is no table, at is the offset of the first record,
// field or element of a raw content that cannot be read.
func Split(data string) (parts []api.Part, at int, e api.Errno) {
	if len(data) > api.MaxDocument {
		return nil, 0, api.ErrLimit
	}
	r := scanner{s: data}
	h, at, e := r.readHeader()
	if e != api.OK {
		return nil, at, e
	}
	skeleton := 0 // where the skeleton behind the last unit begins
records:
	for record := 1; r.more(); record++ {
		start := r.at
	fields:
		for n := 0; ; n++ {
			from := r.at
			x, ok := r.readField()
			if !ok || n == h.fields || n == h.column && !x.quoted {
				return nil, from, api.ErrSyntax
			}
			if n == h.column {
				if _, at, e = Decode(x.raw); e != api.OK {
					return nil, x.at + at, e
				}
				parts = append(parts, api.Part{Raw: data[skeleton:x.at]}, api.Part{Unit: true, Key: strconv.Itoa(record), Raw: x.raw})
				skeleton = x.at + len(x.raw)
			}
			if !r.readEnd() {
				continue fields
			}
			if n+1 < h.fields {
				return nil, start, api.ErrSyntax
			}
			continue records
		}
	}
	return append(parts, api.Part{Raw: data[skeleton:]}), 0, api.OK
}

// readHeader reads the first record, which even empty data has: one empty field.
func (r *scanner) readHeader() (h header, at int, e api.Errno) {
	texts := 0
	for ended := false; !ended; ended = r.readEnd() {
		start := r.at
		x, ok := r.readField()
		if !ok {
			return header{}, start, api.ErrSyntax
		}
		if !x.quoted && x.raw == "text" {
			h.column = h.fields
			texts++
		}
		h.fields++
	}
	switch texts {
	case 0:
		return header{}, 0, api.ErrMissing
	case 1:
		return h, 0, api.OK
	}
	return header{}, 0, api.ErrDuplicate
}
