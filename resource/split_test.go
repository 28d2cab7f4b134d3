package resource_test

import (
	"fmt"
	"slices"
	"strings"
	"testing"

	"bitext/api"
	"bitext/resource"
)

// skeleton and unit are parts of a file.
func skeleton(raw string) api.Part { return api.Part{Raw: raw} }

func unit(key, raw string) api.Part { return api.Part{Unit: true, Key: key, Raw: raw} }

// bytesOf is the concatenation of the raw bytes of all parts.
func bytesOf(parts []api.Part) string {
	var s strings.Builder
	for _, p := range parts {
		s.WriteString(p.Raw)
	}
	return s.String()
}

// split checks that a file has the parts.
func split(t *testing.T, data string, want ...api.Part) {
	t.Helper()
	if got, at, e := resource.Split(data); !slices.Equal(got, want) || at != 0 || e != api.OK {
		t.Errorf("Split(%.120q) = %+v, %d, %d, not %+v", data, got, at, e, want)
	}
}

// noSplit checks that Split reports an error at an offset, and nothing else.
func noSplit(t *testing.T, data string, at int, want api.Errno) {
	t.Helper()
	if got, n, e := resource.Split(data); len(got) != 0 || n != at || e != want {
		t.Errorf("Split(%.120q) = %+v, %d, %d, not %d, %d", data, got, n, e, at, want)
	}
}

// P8.4: the examples, and ordinary files.
func TestSplitValues(t *testing.T) {
	split(t, "", skeleton(""))
	split(t, "a=x\n", skeleton("a="), unit("a", "x"), skeleton("\n"))
	split(t, "a=x", skeleton("a="), unit("a", "x"), skeleton(""))
	split(t, "a=\n", skeleton("a="), unit("a", ""), skeleton("\n"))
	split(t, "a=", skeleton("a="), unit("a", ""), skeleton(""))
	split(t, "a=\nb=", skeleton("a="), unit("a", ""), skeleton("\nb="), unit("b", ""), skeleton(""))
	split(t, "a= x \nb=\ty\t\n", skeleton("a="), unit("a", " x "), skeleton("\nb="), unit("b", "\ty\t"), skeleton("\n"))
	split(t, "a=x\r\n", skeleton("a="), unit("a", "x\r"), skeleton("\n"))
	split(t, "a=\x00#\xff}\n", skeleton("a="), unit("a", "\x00#\xff}"), skeleton("\n"))
	split(t, "a=#b\nb=c=d\n", skeleton("a="), unit("a", "#b"), skeleton("\nb="), unit("b", "c=d"), skeleton("\n"))
	split(t, "# Menu\n\nfile.open=Open {name}\nfile.close=Close\\n\n  # Dialogs\nask_1=Do you want to \\\n    save {name}?\n",
		skeleton("# Menu\n\nfile.open="), unit("file.open", "Open {name}"), skeleton("\nfile.close="), unit("file.close", `Close\n`), skeleton("\n  # Dialogs\nask_1="), unit("ask_1", "Do you want to \\\n    save {name}?"), skeleton("\n"))
}

// P8.4: blank lines and comments are skeleton, wherever they are; they are not
// continued.
func TestSplitSkeleton(t *testing.T) {
	lines := []string{"", " ", "\t", " \t \t\t", "#", "# a=b", "  \t# c", "#\\", "# {N} \\q", "#\r\x00\xff", strings.Repeat(" ", 2*api.MaxLength) + "#" + strings.Repeat("c", 2*api.MaxLength)}
	for _, s := range lines {
		split(t, s, skeleton(s))
		split(t, s+"\n", skeleton(s+"\n"))
		split(t, s+"\na=x", skeleton(s+"\na="), unit("a", "x"), skeleton(""))
		split(t, "a=x\n"+s, skeleton("a="), unit("a", "x"), skeleton("\n"+s))
		split(t, "a=x\n"+s+"\n", skeleton("a="), unit("a", "x"), skeleton("\n"+s+"\n"))
		noSplit(t, s+"\na", len(s)+1, api.ErrSyntax)
		for _, s2 := range lines {
			split(t, s+"\n"+s2, skeleton(s+"\n"+s2))
			split(t, s+"\n"+s2+"\n", skeleton(s+"\n"+s2+"\n"))
			split(t, "a=x\n"+s+"\n"+s2+"\nb=", skeleton("a="), unit("a", "x"), skeleton("\n"+s+"\n"+s2+"\nb="), unit("b", ""), skeleton(""))
		}
	}
	// Behind spaces and tabs, a line is blank or a comment or nothing.
	for b := range 256 {
		s := string([]byte{byte(b)})
		switch s {
		case " ", "\t", "\n", "#":
			split(t, " \t"+s, skeleton(" \t"+s))
			split(t, "\n"+s+"\n", skeleton("\n"+s+"\n"))
		default:
			noSplit(t, s, 0, api.ErrSyntax)
			noSplit(t, " \t"+s+"\n", 0, api.ErrSyntax)
			noSplit(t, "\n"+s+" \n", 1, api.ErrSyntax)
			noSplit(t, "# c\n "+s+"=x", 4, api.ErrSyntax)
		}
	}
}

// P8.4: keys of every length and of every byte.
func TestSplitKeys(t *testing.T) {
	for n := 1; n <= 70; n++ {
		k := strings.Repeat("k", n)
		if n <= 64 {
			split(t, k+"=x", skeleton(k+"="), unit(k, "x"), skeleton(""))
			split(t, "a=\n"+k+"=", skeleton("a="), unit("a", ""), skeleton("\n"+k+"="), unit(k, ""), skeleton(""))
		} else {
			noSplit(t, k+"=x", 0, api.ErrSyntax)
			noSplit(t, "a=\n"+k+"=", 3, api.ErrSyntax)
		}
		noSplit(t, k, 0, api.ErrSyntax)
		noSplit(t, k+"\n=", 0, api.ErrSyntax)
	}
	const allowed = "abcdefghijklmnopqrstuvwxyz0123456789._-"
	for b := range 256 {
		s := string([]byte{byte(b)})
		if strings.Contains(allowed, s) {
			split(t, s+"=x", skeleton(s+"="), unit(s, "x"), skeleton(""))
			split(t, "a"+s+s+"z=x", skeleton("a"+s+s+"z="), unit("a"+s+s+"z", "x"), skeleton(""))
			noSplit(t, s, 0, api.ErrSyntax)
			continue
		}
		if s != "#" && s != "\n" {
			noSplit(t, s+"k=x", 0, api.ErrSyntax)
		}
		if s != "=" {
			noSplit(t, "k"+s+"=x", 0, api.ErrSyntax)
			noSplit(t, "k"+s+"k=x", 0, api.ErrSyntax)
			noSplit(t, "a=\nk"+s+"x", 3, api.ErrSyntax)
		}
	}
	split(t, allowed+"=x", skeleton(allowed+"="), unit(allowed, "x"), skeleton(""))
	split(t, "a==\nb=a=b\n", skeleton("a="), unit("a", "="), skeleton("\nb="), unit("b", "a=b"), skeleton("\n"))
	for _, s := range []string{"k", "k\n", "k x", "k =x", "k\t=x", " k=x", "\tk=x", "=", "=x", "==", "k:x", "k\\=x", "k\\\n=x", "\\", "\\\nk=x", "é=x", "k#=x", "{k}=x", "k\n=x"} {
		noSplit(t, s, 0, api.ErrSyntax)
		noSplit(t, "a=x\n# c\n"+s, 8, api.ErrSyntax)
		noSplit(t, "\n"+s+"\nb=x", 1, api.ErrSyntax)
	}
}

// P8.4: where a raw value ends. A \ and the byte behind it belong together.
func TestSplitEnds(t *testing.T) {
	for _, c := range joints {
		split(t, "a=x"+c, skeleton("a="), unit("a", "x"+c), skeleton(""))
		split(t, "a="+c+"\nb=", skeleton("a="), unit("a", c), skeleton("\nb="), unit("b", ""), skeleton(""))
		split(t, "a=x"+c+"b=y\nc=", skeleton("a="), unit("a", "x"+c+"b=y"), skeleton("\nc="), unit("c", ""), skeleton(""))
		split(t, "a=x"+c+"#y\n#z", skeleton("a="), unit("a", "x"+c+"#y"), skeleton("\n#z"))
	}
	backslash := `\`
	for n := range 12 {
		s := strings.Repeat(backslash, n)
		if n%2 == 0 {
			split(t, "a=x"+s+"\nb=y", skeleton("a="), unit("a", "x"+s), skeleton("\nb="), unit("b", "y"), skeleton(""))
			split(t, "a="+s, skeleton("a="), unit("a", s), skeleton(""))
		} else {
			split(t, "a=x"+s+"\nb=y", skeleton("a="), unit("a", "x"+s+"\nb=y"), skeleton(""))
			noSplit(t, "a="+s, 1+n, api.ErrSyntax)
		}
	}
	split(t, "a=\\n\\\nb=\\s\n", skeleton("a="), unit("a", "\\n\\\nb=\\s"), skeleton("\n"))
	split(t, "a=x\\\n \\\n\ty\n\n", skeleton("a="), unit("a", "x\\\n \\\n\ty"), skeleton("\n\n"))
	split(t, "a=x\\\n\n\n", skeleton("a="), unit("a", "x\\\n"), skeleton("\n\n"))
	split(t, "#\\\na=x", skeleton("#\\\na="), unit("a", "x"), skeleton(""))
	noSplit(t, " \\\na=x", 0, api.ErrSyntax)
	// The byte behind a \ that is none of an escape is not the end either.
	noSplit(t, "a={\\\n}", 2, api.ErrSyntax)
	noSplit(t, "a=\\q\\\nb=x", 2, api.ErrSyntax)
}

// P8.4: the same key twice.
func TestSplitDuplicates(t *testing.T) {
	noSplit(t, "a=\na=", 3, api.ErrDuplicate)
	noSplit(t, "a=1\na=2\n", 4, api.ErrDuplicate)
	noSplit(t, "a=1\na=1\n", 4, api.ErrDuplicate)
	noSplit(t, "a=1\nb=2\n\n# c\na=3", 13, api.ErrDuplicate)
	noSplit(t, "a=x\\\nb=y\nb=z\na=", 13, api.ErrDuplicate)
	noSplit(t, "a=1\nb=2\nb=3\na=4", 8, api.ErrDuplicate)
	k := strings.Repeat("k", 64)
	noSplit(t, k+"=\n"+k+"=", 66, api.ErrDuplicate)
	// Keys that only begin alike are different, and so are those in comments and in
	// raw values.
	split(t, "a=\naa=\na.a=\n#a=\na-=a=", skeleton("a="), unit("a", ""), skeleton("\naa="), unit("aa", ""), skeleton("\na.a="), unit("a.a", ""), skeleton("\n#a=\na-="), unit("a-", "a="), skeleton(""))
	split(t, "a=\\\na=", skeleton("a="), unit("a", "\\\na="), skeleton(""))
	split(t, "a=\\\nb=\nb=", skeleton("a="), unit("a", "\\\nb="), skeleton("\nb="), unit("b", ""), skeleton(""))
	noSplit(t, k+"=\n"+k+"k=", 66, api.ErrSyntax)
	// The key comes before the raw value, and the form of the line before both.
	noSplit(t, "a=1\na=\\q", 4, api.ErrDuplicate)
	noSplit(t, "a=1\na={", 4, api.ErrDuplicate)
	noSplit(t, "a=1\na="+strings.Repeat("x", api.MaxLength+1), 4, api.ErrDuplicate)
	noSplit(t, "a=1\na", 4, api.ErrSyntax)
	noSplit(t, "a=1\na =\\q", 4, api.ErrSyntax)
	noSplit(t, "a=1\n a=2", 4, api.ErrSyntax)
	// 900 keys, each with every other one.
	var data strings.Builder
	for i := range 900 {
		fmt.Fprintf(&data, "k%d=%d\n", i, i)
	}
	parts, at, e := resource.Split(data.String())
	if len(parts) != 1801 || at != 0 || e != api.OK || parts[1799] != unit("k899", "899") || bytesOf(parts) != data.String() {
		t.Errorf("Split of 900 lines = %d parts, %d, %d", len(parts), at, e)
	}
	for _, i := range []int{0, 1, 450, 899} {
		noSplit(t, data.String()+fmt.Sprintf("k%d=", i), data.Len(), api.ErrDuplicate)
	}
}

// P8.4: raw values that cannot be read, alone and among lines with errors of
// their own.
func TestSplitValueErrors(t *testing.T) {
	long, slots := strings.Repeat("x", api.MaxLength), strings.Repeat("{n}", api.MaxItems)
	for _, x := range []struct {
		raw  string
		at   int
		want api.Errno
	}{
		{`\q`, 0, api.ErrSyntax}, {"{", 0, api.ErrSyntax}, {"{N}", 0, api.ErrSyntax}, {`a\ b`, 1, api.ErrSyntax}, {"a\\\n \\\n\\q", 6, api.ErrSyntax}, {"{n}{n", 3, api.ErrSyntax}, {"{a\\\nb}", 0, api.ErrSyntax},
		{long + "x", api.MaxLength, api.ErrLimit}, {long + "\\\n \\n", api.MaxLength + 3, api.ErrLimit}, {slots + "x", 3 * api.MaxItems, api.ErrLimit}, {slots + "{N}", 3 * api.MaxItems, api.ErrSyntax}, {long + `x\q`, api.MaxLength, api.ErrLimit},
	} {
		noSplit(t, "a="+x.raw, 2+x.at, x.want)
		for _, before := range []string{"\n", "# c\n", "a=x\n", "a=x\\\n y\n \t\n", "a=" + long + "\nc=" + slots + "\n"} {
			for _, after := range []string{"", "\n", "\nb=y", "\nc", "\n=", "\na=", "\nd=\\q", "\n c=", "\nd={"} {
				noSplit(t, before+"b="+x.raw+after, len(before)+2+x.at, x.want)
			}
			// The line in front counts, if it has an error.
			for _, wrong := range []string{"c", "=", " c=", "c =x", "C=x"} {
				noSplit(t, before+wrong+"\nb="+x.raw, len(before), api.ErrSyntax)
			}
			noSplit(t, before+"d=\nd=\nb="+x.raw, len(before)+3, api.ErrDuplicate)
			noSplit(t, before+"d=x{\nb="+x.raw, len(before)+3, api.ErrSyntax)
			noSplit(t, before+"d="+long+"x\nb="+x.raw, len(before)+2+api.MaxLength, api.ErrLimit)
		}
	}
	noSplit(t, `a=\`, 2, api.ErrSyntax)
	noSplit(t, `a=x\\\`, 5, api.ErrSyntax)
	noSplit(t, "a=x\nb=\\", 6, api.ErrSyntax)
}

// P8.4: as many bytes as possible, and one more, which comes before all else.
func TestSplitLimit(t *testing.T) {
	for _, s := range []string{"", "a=x", "a=x\n", "\n", "#", "a=x\\\n"} {
		full := "#" + strings.Repeat("x", api.MaxDocument-len(s)-2) + "\n" + s
		if got, at, e := resource.Split(full); len(got) == 0 || at != 0 || e != api.OK || bytesOf(got) != full {
			t.Errorf("Split of %d bytes = %d parts, %d, %d", len(full), len(got), at, e)
		}
		noSplit(t, "#"+full, 0, api.ErrLimit)
		noSplit(t, full+"\n", 0, api.ErrLimit)
	}
	blanks := strings.Repeat("\n", api.MaxDocument-2)
	split(t, blanks+"\n\n", skeleton(blanks+"\n\n"))
	noSplit(t, blanks+"\n\n\n", 0, api.ErrLimit)
	noSplit(t, blanks+"ab", api.MaxDocument-2, api.ErrSyntax)
	noSplit(t, "ab"+blanks, 0, api.ErrSyntax)
	noSplit(t, "a\n"+blanks+"\n", 0, api.ErrLimit)
	noSplit(t, "a={"+blanks, 0, api.ErrLimit)
	noSplit(t, "b=\nb="+blanks, 0, api.ErrLimit)
	noSplit(t, "a=\nb=\\q\n"+blanks, 0, api.ErrLimit)
	x := strings.Repeat("x", api.MaxDocument-2)
	noSplit(t, "a="+x, 2+api.MaxLength, api.ErrLimit)
	noSplit(t, "a="+x+"x", 0, api.ErrLimit)
	joined := strings.Repeat("\\\n", api.MaxDocument/2-1)
	split(t, "a="+joined, skeleton("a="), unit("a", joined), skeleton(""))
}
