package sheet_test

import (
	"slices"
	"strconv"
	"strings"
	"testing"

	"bitext/api"
	"bitext/sheet"
)

// skeleton and unit are parts of a table.
func skeleton(raw string) api.Part { return api.Part{Raw: raw} }

func unit(key, raw string) api.Part { return api.Part{Unit: true, Key: key, Raw: raw} }

// bytesOf is the concatenation of the raw bytes of all parts.
func bytesOf(parts []api.Part) string {
	var s strings.Builder
	for _, p := range parts {
		s.WriteString(p.Raw)
	}
	return s.String()
}

// split checks that a table has the parts.
func split(t *testing.T, data string, want ...api.Part) {
	t.Helper()
	if got, at, e := sheet.Split(data); !slices.Equal(got, want) || at != 0 || e != api.OK {
		t.Errorf("Split(%.120q) = %+v, %d, %d, not %+v", data, got, at, e, want)
	}
}

// noSplit checks that Split reports an error at an offset, and nothing else.
func noSplit(t *testing.T, data string, at int, want api.Errno) {
	t.Helper()
	if got, n, e := sheet.Split(data); len(got) != 0 || n != at || e != want {
		t.Errorf("Split(%.120q) = %+v, %d, %d, not %d, %d", data, got, n, e, at, want)
	}
}

// P9.4: the examples, and ordinary tables.
func TestSplitValues(t *testing.T) {
	split(t, "id,text\n7,\"a\"", skeleton("id,text\n7,\""), unit("1", "a"), skeleton("\""))
	split(t, "text\n\"a\"", skeleton("text\n\""), unit("1", "a"), skeleton("\""))
	split(t, "text\n\"a\"\n", skeleton("text\n\""), unit("1", "a"), skeleton("\"\n"))
	split(t, "text\n\"\"\n\"\"", skeleton("text\n\""), unit("1", ""), skeleton("\"\n\""), unit("2", ""), skeleton("\""))
	split(t, "id,text,note\n1,\"Open {name}\",menu\n2,\"Say \"\"{{hi}\"\"\",\"a, \"\"b\"\"\nc\"\n", skeleton("id,text,note\n1,\""), unit("1", "Open {name}"), skeleton("\",menu\n2,\""), unit("2", "Say \"\"{{hi}\"\""), skeleton("\",\"a, \"\"b\"\"\nc\"\n"))
	split(t, "text\n\" a\r\n\x00\xff,} \"\n", skeleton("text\n\""), unit("1", " a\r\n\x00\xff,} "), skeleton("\"\n"))
}

// P9.4: a header alone, with and without its end.
func TestSplitHeaderOnly(t *testing.T) {
	for _, s := range []string{
		"text", "text,", ",text", ",,text,,", "a,text,b", "Text,text,TEXT", "\"text\",text", "text,\"text\"", "text,\"text,text\"", "text,\"\n\"", "text,\"\"", "\"\"\"\",text", "\"a\"\"b\nc,d\",text", "text, text,text ,texts,tex", "id,text,\xff\x00\r", "{N},text,{", "text\r,text",
	} {
		split(t, s, skeleton(s))
		split(t, s+"\n", skeleton(s+"\n"))
	}
}

// P9.4: a header without the text column, or with two; the fields come first.
func TestSplitHeaderErrors(t *testing.T) {
	for _, s := range []string{
		"", "id", "Text", " text", "text ", "text\r", "\ttext", "texts", "tex", "\"text\"", "\"text\",\"text\"", ",", ",,", "a,b,c", "\"\"", "\",text,\"", "\"\ntext\n\"", "t,e,x,t", "te\x00xt", "\xfftext",
	} {
		noSplit(t, s, 0, api.ErrMissing)
		for _, more := range []string{"\n", "\ntext\n", "\n\"a\"\n", "\n\"{x\"", "\n\"a", "\na\"b", "\n,,,,,,,"} {
			noSplit(t, s+more, 0, api.ErrMissing)
		}
		split(t, s+",text", skeleton(s+",text"))
		noSplit(t, s+",text,text", 0, api.ErrDuplicate)
	}
	for _, s := range []string{"text,text", "text,a,text", "text,text,text", "a,text,\"text\",text,b", ",text,text", "text,text,"} {
		noSplit(t, s, 0, api.ErrDuplicate)
		for _, more := range []string{"\n", "\n\"a\"", "\nx", "\n\"a", "\n\"{x\",\"a\"", "\n,,,,,,,"} {
			noSplit(t, s+more, 0, api.ErrDuplicate)
		}
	}
	for _, before := range []string{"", "text,", "id,text,", "a,", "text,text,", "\"a,\n\"\"\",", ",,"} {
		for _, s := range wrongFields {
			noSplit(t, before+s, len(before), api.ErrSyntax)
			noSplit(t, before+s+",text", len(before), api.ErrSyntax)
			noSplit(t, before+s+"\nx", len(before), api.ErrSyntax)
			noSplit(t, before+s+",a\"b", len(before), api.ErrSyntax)
		}
		for _, s := range []string{"\"", "\"a", "\"a\"\"", "\"\"\"", "\"a,b\ntext\n"} {
			noSplit(t, before+s, len(before), api.ErrSyntax)
		}
	}
}

// wrongFields are neither bare nor quoted, also if a , or the byte 10 follows.
var wrongFields = []string{"\"a\"b", "\"a\" ", "\"\"a", "\"\"a\"\"", "a\"b", "a\"\"", " \"a\"", "text\"\"", "\"text\"x", "\"a\"\r", "\"a\"\"\"b", "\"a\"b\"c\"", "x\"y\"", "\"a,\nb\"\x00", "\"\"{", "\"{x\"y", "\"{}\" "}

// P9.4: fields that are neither bare nor quoted, in each column of a record.
func TestSplitWrongFields(t *testing.T) {
	for _, x := range []struct{ header, before, after string }{
		{"text", "", ""}, {"text,id", "", ",1"}, {"text,id", "\"a\",", ""}, {"id,text", "", ",\"a\""}, {"id,text", "1,", ""}, {"a,text,b", "1,", ",2"}, {"a,text,b", "1,\"a\",", ""}, {"a,text,b", "", ",\"a\",2"}, {"a,b,text", "\"1\",", ",\"a\""},
	} {
		for _, first := range []string{"", strings.Repeat(",\"a\"", 1+strings.Count(x.header, ","))[1:] + "\n"} {
			before := x.header + "\n" + first + x.before
			for _, s := range wrongFields {
				noSplit(t, before+s+x.after, len(before), api.ErrSyntax)
				noSplit(t, before+s+x.after+"\n", len(before), api.ErrSyntax)
				noSplit(t, before+s+x.after+",more", len(before), api.ErrSyntax)
				noSplit(t, before+s+",\n\"{x\",\"{x\",\"{x\"", len(before), api.ErrSyntax)
			}
			// What has no closing quote reaches up to the end, and so does the last ".
			for _, s := range []string{"\"", "\"a", "\"a\"\"", "\"\"\"", "\"a,b\n1,2\n", "\"{x", "\"{x\"\",\n"} {
				noSplit(t, before+s, len(before), api.ErrSyntax)
			}
		}
	}
}

// P9.4: tables of one column and of several, with the text column in each place,
// with bare, empty and quoted fields around it.
func TestSplitColumns(t *testing.T) {
	others := []string{"", "1", " ", "text", "{N}", "\"\"", "\"1\"", "\"a,b\"", "\"\n\"", "\"\"\"\"", "\"x\"\"y\"\"\"", "\"text\"", "\"{\"", "\x00\r\xff"}
	for _, x := range others {
		h := x
		if h == "text" {
			h = "id"
		}
		split(t, "text\n\"a\"\n\"b\"", skeleton("text\n\""), unit("1", "a"), skeleton("\"\n\""), unit("2", "b"), skeleton("\""))
		split(t, h+",text\n"+x+",\"a\"\n"+x+",\"b\"\n", skeleton(h+",text\n"+x+",\""), unit("1", "a"), skeleton("\"\n"+x+",\""), unit("2", "b"), skeleton("\"\n"))
		split(t, "text,"+h+"\n\"a\","+x+"\n\"b\","+x, skeleton("text,"+h+"\n\""), unit("1", "a"), skeleton("\","+x+"\n\""), unit("2", "b"), skeleton("\","+x))
		for _, y := range others {
			split(t, "1,text,2\n"+x+",\"a\","+y+"\n"+y+",\"\","+x+"\n", skeleton("1,text,2\n"+x+",\""), unit("1", "a"), skeleton("\","+y+"\n"+y+",\""), unit("2", ""), skeleton("\","+x+"\n"))
			split(t, "1,2,text\n"+x+","+y+",\"a\"", skeleton("1,2,text\n"+x+","+y+",\""), unit("1", "a"), skeleton("\""))
			split(t, "text,1,2\n\"a\","+x+","+y, skeleton("text,1,2\n\""), unit("1", "a"), skeleton("\","+x+","+y))
		}
	}
	// 2000 columns.
	commas := strings.Repeat(",", 1000)
	split(t, commas+"text"+commas+"\n"+commas+"\"a\""+commas, skeleton(commas+"text"+commas+"\n"+commas+"\""), unit("1", "a"), skeleton("\""+commas))
	noSplit(t, commas+"text"+commas+"\n"+commas+"\"a\""+commas+",", 4+2000+1+1000+3+1000+1, api.ErrSyntax)
	noSplit(t, commas+"text"+commas+",\n"+commas+"\"a\""+commas, 4+2001+1, api.ErrSyntax)
}

// P9.4: raw contents of all sorts pass through the text column as they are.
func TestSplitRaws(t *testing.T) {
	for _, raw := range []string{
		"", "a", " ", ",", "\n", "\n\n", ",\n,", "\"\"", "\"\"\"\"", "a\"\"", "\"\"a", "\"\",\"\"", "\"\"\n\"\"", "{n}", "{{", "{{{n}", "{{n}", "{{\"\"{{", "\"\"{n}\"\"", "{{{{", "}", "text", "a,\"\"b\"\"\nc", "\x00\r\xff", strings.Repeat("a", api.MaxLength), strings.Repeat("\"\"", api.MaxLength), strings.Repeat("{n}", api.MaxItems),
	} {
		split(t, "text\n\""+raw+"\"", skeleton("text\n\""), unit("1", raw), skeleton("\""))
		split(t, "text\n\""+raw+"\"\n", skeleton("text\n\""), unit("1", raw), skeleton("\"\n"))
		split(t, "a,text,b\n,\""+raw+"\",\n\""+raw+"x\",\""+raw+"\",3", skeleton("a,text,b\n,\""), unit("1", raw), skeleton("\",\n\""+raw+"x\",\""), unit("2", raw), skeleton("\",3"))
	}
}

// P9.4: where records end. An empty line is a record of one empty field.
func TestSplitEnds(t *testing.T) {
	noSplit(t, "\n", 0, api.ErrMissing)
	noSplit(t, "\ntext", 0, api.ErrMissing)
	noSplit(t, "\ntext\n\"a\"", 0, api.ErrMissing)
	noSplit(t, "text\n\n", 5, api.ErrSyntax)
	noSplit(t, "text\n\n\"a\"", 5, api.ErrSyntax)
	noSplit(t, "text\n\"a\"\n\n", 9, api.ErrSyntax)
	noSplit(t, "text\n\"a\"\n\n\"b\"\n", 9, api.ErrSyntax)
	noSplit(t, "text,x\n\n", 7, api.ErrSyntax)
	noSplit(t, "x,text\n\n", 7, api.ErrSyntax)
	noSplit(t, "x,text\n1,\"a\"\n\n", 13, api.ErrSyntax)
	noSplit(t, "x,text\n1,\"a\"\n\n2,\"b\"", 13, api.ErrSyntax)
	noSplit(t, "text\n\"a\"\r\n", 5, api.ErrSyntax)
	noSplit(t, "text\r\n\"a\"\r\n", 0, api.ErrMissing)
	split(t, "text,\r\n\"a\",\r\n", skeleton("text,\r\n\""), unit("1", "a"), skeleton("\",\r\n"))
	split(t, "text,x\n\"a\",\n\"b\",", skeleton("text,x\n\""), unit("1", "a"), skeleton("\",\n\""), unit("2", "b"), skeleton("\","))
}

// P9.4: the text field of a record is quoted.
func TestSplitBareTexts(t *testing.T) {
	for _, s := range []string{"", "a", " ", "text", "{n}", "{N}", "{", "\x00", "\xff", "'a'", "\r", strings.Repeat("a", api.MaxLength+1)} {
		for _, end := range []string{"", "\n", ",1", ",1,2", ",a\"b", "\n\"a", "\n\"{x\",1"} {
			if s+end != "" {
				noSplit(t, "text\n"+s+end, 5, api.ErrSyntax)
				noSplit(t, "text,b\n"+s+end, 7, api.ErrSyntax)
			}
			noSplit(t, "text\n\"a\"\n\"b\"\n"+s+end+"\n", 13, api.ErrSyntax)
			noSplit(t, "a,text\n1,"+s+end, 9, api.ErrSyntax)
			noSplit(t, "a,text\n\"b\",\"c\"\n\"1\","+s+end, 19, api.ErrSyntax)
			noSplit(t, "a,b,text\n1,2,"+s+end, 13, api.ErrSyntax)
		}
	}
}

// P9.4: records with more fields than the header, and with fewer.
func TestSplitCounts(t *testing.T) {
	for _, x := range []struct {
		data string
		at   int
	}{
		{"text\n\"a\",", 9}, {"text\n\"a\",1", 9}, {"text\n\"a\",1\n", 9}, {"text\n\"a\",\"b\"", 9}, {"text\n\"a\",,,", 9}, {"text\n\"a\"\n\"b\",\n", 13},
		{"text,id\n\"a\",1,", 14}, {"text,id\n\"a\",1,2\n", 14}, {"text,id\n\"a\",,", 13}, {"id,text\n1,\"a\",3", 14}, {"id,text\n1,\"a\"\n2,\"b\",", 20}, {"id,text\n\"1,\n\",\"a\",x\n", 18},
		{"a,text,b\n1,\"a\",2,\"b\"", 17}, {"a,text,b\n1,\"a\",\"2,3\",\n", 21},
		// A further field is wrong whatever it is.
		{"text\n\"a\",\"b", 9}, {"text\n\"a\",\"b\"c", 9}, {"text\n\"a\",b\"", 9}, {"id,text\n1,\"a\",\"{x\"", 14},
		// Fewer fields: the offset is that of the record.
		{"text,id\n\"a\"", 8}, {"text,id\n\"a\"\n", 8}, {"text,id\n\"a\"\n\"b\",2", 8}, {"text,id\n\"a\",1\n\"b\"", 14}, {"text,id\n\"a\",1\n\"b\"\n", 14}, {"id,text\n1", 8}, {"id,text\n\n", 8}, {"id,text\n1\n", 8}, {"id,text\n\"1,2\"\n", 8}, {"id,text\n1,\"a\"\n2", 14}, {"id,text\n1,\"a\"\n2\n3,\"b\"", 14},
		{"a,text,b\n1,\"a\"", 9}, {"a,text,b\n1", 9}, {"a,text,b\n1,\"a\"\n", 9}, {"a,text,b\n1,\"a\",2\n1\n", 17}, {"a,text,b\n1,\"a\",2\n1,\"b\"\n,\"c\",", 17}, {"text,,\n\"a\",", 7}, {"text,,\n\"a\",\n\"b\",,", 7},
		// A record counts before the one behind it.
		{"id,text\n1\n2,\"{x\"", 8}, {"id,text\n1\n\"2", 8}, {"id,text\n1,\"a\",\n2", 14},
	} {
		noSplit(t, x.data, x.at, api.ErrSyntax)
	}
}

// P9.4: raw contents that cannot be read, alone and among fields and records with
// errors of their own.
func TestSplitRawErrors(t *testing.T) {
	long, slots := strings.Repeat("x", api.MaxLength), strings.Repeat("{n}", api.MaxItems)
	for _, x := range []struct {
		raw  string
		at   int
		want api.Errno
	}{
		{"{", 0, api.ErrSyntax}, {"{N}", 0, api.ErrSyntax}, {"a{", 1, api.ErrSyntax}, {"\"\"{{{}", 4, api.ErrSyntax}, {"a\n,{\"\"n}", 3, api.ErrSyntax}, {"{n}{n", 3, api.ErrSyntax}, {"{{{{{", 4, api.ErrSyntax}, {"{N}{M}", 0, api.ErrSyntax},
		{long + "x", api.MaxLength, api.ErrLimit}, {long + "\"\"", api.MaxLength, api.ErrLimit}, {strings.Repeat("{{", api.MaxLength) + "}", 2 * api.MaxLength, api.ErrLimit}, {slots + "x", 3 * api.MaxItems, api.ErrLimit}, {slots + "{N}", 3 * api.MaxItems, api.ErrSyntax}, {long + "x{", api.MaxLength, api.ErrLimit},
	} {
		quoted := "\"" + x.raw + "\""
		noSplit(t, "text\n"+quoted, 6+x.at, x.want)
		for _, before := range []string{"a,text,b\n", "a,text,b\n1,\"a\",2\n", "a,text,b\n\"{N}\",\"\"\"{n}\",\n,\"\",{\n", "a,text,b\n1,\"" + long + "\",\n2,\"" + slots + "\",\n"} {
			// Everything behind the raw content comes later: fields that are wrong, one
			// field more, fields that are missing, and other records.
			for _, after := range []string{"", "\n", ",", ",2", ",2,3", ",\"2", ",2\"", ",\n", ",2\n3", ",2\n3,4,5", ",2\n3,\"{x\",4", "\n,,,", ",2\n\"", ",2\n\n"} {
				noSplit(t, before+"1,"+quoted+after, len(before)+3+x.at, x.want)
				noSplit(t, before+"\"{,\"\"\","+quoted+after, len(before)+8+x.at, x.want)
			}
			// A field is quoted or not before its raw content is read.
			for _, after := range []string{" ", "x", "\"\"\"", "\r\n", "{n}", " ,2", "x\n"} {
				noSplit(t, before+"1,"+quoted+after, len(before)+2, api.ErrSyntax)
			}
			noSplit(t, before+"1,"+quoted[:len(quoted)-1], len(before)+2, api.ErrSyntax)
			noSplit(t, before+"1,"+x.raw, len(before)+2, api.ErrSyntax)
			// A record in front counts, if it has an error.
			for _, wrong := range []string{"1", "1,\"b\"", ""} {
				noSplit(t, before+wrong+"\n1,"+quoted+",", len(before), api.ErrSyntax)
			}
			noSplit(t, before+"1,b,2\n1,"+quoted+",", len(before)+2, api.ErrSyntax)
			noSplit(t, before+"1,\"b\",2,3\n1,"+quoted+",", len(before)+8, api.ErrSyntax)
			noSplit(t, before+"1,\"b{\",2\n1,"+quoted+",", len(before)+4, api.ErrSyntax)
			noSplit(t, before+"1,\""+long+"x\",2\n1,"+quoted+",", len(before)+3+api.MaxLength, api.ErrLimit)
			noSplit(t, before+"1,\"b\",2\"\n1,"+quoted+",", len(before)+6, api.ErrSyntax)
			noSplit(t, before+"1\","+quoted+",", len(before), api.ErrSyntax)
			// The same bytes in another column are no raw content.
			split(t, "text,a\n\"b\","+quoted, skeleton("text,a\n\""), unit("1", "b"), skeleton("\","+quoted))
			split(t, quoted+",text\n"+quoted+",\"b\"", skeleton(quoted+",text\n"+quoted+",\""), unit("1", "b"), skeleton("\""))
		}
	}
}

// P9.4: the keys are the numbers of the records, of one and of several digits.
func TestSplitKeys(t *testing.T) {
	const records = 1200
	var data strings.Builder
	data.WriteString("note,text\n")
	want := []api.Part{}
	before := "note,text\n"
	for i := range records {
		s := strconv.Itoa(i + 1)
		data.WriteString("\"a\nb,\",\"t" + s + "\"\n")
		want = append(want, skeleton(before+"\"a\nb,\",\""), unit(s, "t"+s))
		before = "\"\n"
	}
	split(t, data.String(), append(want, skeleton(before))...)
	noSplit(t, data.String()+"x", data.Len(), api.ErrSyntax)
	noSplit(t, data.String()+"x,y", data.Len()+2, api.ErrSyntax)
	noSplit(t, data.String()+"x,\"{\"", data.Len()+3, api.ErrSyntax)
}

// P9.4: as many bytes as possible, and one more, which comes before all else.
func TestSplitLimit(t *testing.T) {
	pad := func(n int) string { return strings.Repeat("x", n) }
	for _, s := range []string{",text", ",text\n", ",text\n,\"a\"", ",text\n,\"a\"\n"} {
		full := pad(api.MaxDocument-len(s)) + s
		if got, at, e := sheet.Split(full); len(got) == 0 || at != 0 || e != api.OK || bytesOf(got) != full {
			t.Errorf("Split of %d bytes = %d parts, %d, %d", len(full), len(got), at, e)
		}
		noSplit(t, "x"+full, 0, api.ErrLimit)
		noSplit(t, full+"\n", 0, api.ErrLimit)
	}
	full := "text,x\n\"a\","
	full += pad(api.MaxDocument - len(full))
	split(t, full, skeleton("text,x\n\""), unit("1", "a"), skeleton(full[9:]))
	noSplit(t, full+"x", 0, api.ErrLimit)
	noSplit(t, full+"\n", 0, api.ErrLimit)
	noSplit(t, pad(api.MaxDocument), 0, api.ErrMissing)
	noSplit(t, pad(api.MaxDocument+1), 0, api.ErrLimit)
	noSplit(t, "\""+pad(api.MaxDocument-1), 0, api.ErrSyntax)
	noSplit(t, "\""+pad(api.MaxDocument), 0, api.ErrLimit)
	noSplit(t, "text\n"+pad(api.MaxDocument-5), 5, api.ErrSyntax)
	noSplit(t, "text\n"+pad(api.MaxDocument-4), 0, api.ErrLimit)
	noSplit(t, "text\n\""+pad(api.MaxDocument-7)+"\"", 6+api.MaxLength, api.ErrLimit)
	noSplit(t, "text\n\""+pad(api.MaxDocument-6)+"\"", 0, api.ErrLimit)
	noSplit(t, "text\n\"{"+pad(api.MaxDocument-8)+"\"", 6, api.ErrSyntax)
	noSplit(t, "text\n\"{"+pad(api.MaxDocument), 0, api.ErrLimit)
	noSplit(t, "text,text\n"+pad(api.MaxDocument-10), 0, api.ErrDuplicate)
	noSplit(t, "text,text\n"+pad(api.MaxDocument), 0, api.ErrLimit)
	noSplit(t, strings.Repeat(",", api.MaxDocument), 0, api.ErrMissing)
	noSplit(t, strings.Repeat("\n", api.MaxDocument), 0, api.ErrMissing)
	noSplit(t, strings.Repeat("\"", api.MaxDocument), 0, api.ErrMissing)
	noSplit(t, strings.Repeat("\"", api.MaxDocument-1), 0, api.ErrSyntax)
}
