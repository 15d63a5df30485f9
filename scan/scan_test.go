package scan_test

import (
	"bytes"
	"math"
	"slices"
	"strconv"
	"strings"
	"testing"

	"palinode/api"
	"palinode/scan"
)

// P14.1: each of the 256 bytes is a delimiter, or is none.
func TestIsDelim(t *testing.T) {
	n := 0
	for c := range 256 {
		want := has(delims, byte(c))
		if got := scan.IsDelim(byte(c)); got != want {
			t.Errorf("IsDelim(%d) = %v", c, got)
		}
		none := c < 33 || c > 126 || has(labels, byte(c)) && c != '_' || has(`\(){}[].*^$+?&`, byte(c))
		if want == none {
			t.Errorf("the test of %d is wrong", c)
		}
		if want {
			n++
		}
	}
	if n != 18 {
		t.Errorf("the test knows %d delimiters", n)
	}
}

// P14.1: a cursor stands at 0 at first; over no bytes that is the end.
func TestOpen(t *testing.T) {
	for _, b := range [][]byte{nil, {}, []byte("a"), []byte("\n"), []byte("\\"), []byte(allBytes())} {
		c := scan.Open(b)
		if c == nil {
			t.Fatalf("Open(%.20q) is nil", b)
		}
		if c.At() != 0 {
			t.Errorf("Open(%.20q) stands at %d", b, c.At())
		}
		if _, ok := c.Peek(); ok != (len(b) > 0) {
			t.Errorf("Open(%.20q): Peek tells %v", b, ok)
		}
	}
}

// P14.1, P14.2: no bytes, and nil, for each call.
func TestNoBytes(t *testing.T) {
	for _, b := range [][]byte{nil, {}} {
		for _, x := range []struct {
			call call
			want string
		}{
			{at(), "0"},
			{peek(), "0 false"},
			{next(), "0 false"},
			{skip("a \n"), "0"},
			{skip(allBytes()), "0"},
			{word(), `""`},
			{num(10), aNumber(0, api.ErrForm)},
			{num(-1), aNumber(0, api.ErrForm)},
			{until('/'), aText("", api.ErrDelim)},
			{until('a'), aText("", api.ErrDelim)},
			{rest(), `""`},
			{text(), aText("\n", api.OK)},
		} {
			c := scan.Open(b)
			for range 3 {
				if got := x.call.does(c); got != x.want || c.At() != 0 {
					t.Errorf("%s of no bytes: %s, and the place %d; want %s, and 0", x.call.name, got, c.At(), x.want)
				}
			}
		}
	}
}

// P14.1: Peek leaves the place where it is, and Next goes behind the byte: of each byte; at the end neither tells one, again and again.
func TestPeekAndNext(t *testing.T) {
	s := allBytes() + "\x00\x00\xff\n\n"
	c := scan.Open([]byte(s))
	for i := range len(s) {
		for range 3 {
			if b, ok := c.Peek(); b != s[i] || !ok || c.At() != i {
				t.Fatalf("Peek at %d: %d, %v, and the place %d", i, b, ok, c.At())
			}
		}
		if b, ok := c.Next(); b != s[i] || !ok || c.At() != i+1 {
			t.Fatalf("Next at %d: %d, %v, and the place %d", i, b, ok, c.At())
		}
	}
	for range 5 {
		if b, ok := c.Peek(); b != 0 || ok || c.At() != len(s) {
			t.Fatalf("Peek at the end: %d, %v, and the place %d", b, ok, c.At())
		}
		if b, ok := c.Next(); b != 0 || ok || c.At() != len(s) {
			t.Fatalf("Next at the end: %d, %v, and the place %d", b, ok, c.At())
		}
	}
}

// P14.1: Skip passes over bytes as long as they are some of these.
func TestSkip(t *testing.T) {
	for _, x := range []struct {
		s      string
		at     int
		of     string
		behind int
	}{
		{"aab", 0, "", 0},
		{"aab", 0, "a", 2},
		{"aab", 1, "a", 2},
		{"aab", 2, "a", 2},
		{"aab", 0, "b", 0},
		{"aab", 0, "ba", 3},
		{"aab", 3, "ab", 3},
		{"aab", 0, "aa", 2},
		{"aab", 0, "aaaaaaaaab", 3},
		{"aab", 0, "\x00\xffxyz \n", 0},
		{" \t \tx \t", 0, " \t", 4},
		{" \t \tx \t", 0, " ", 1},
		{" \t \tx \t", 0, "\t", 0},
		{" \t \tx \t", 5, "\t ", 7},
		{"; \n;;#", 0, " \n;", 5},
		{"; \n;;#", 0, ";\n", 1},
		{"\x00\x00\xff\x80", 0, "\x00", 2},
		{"\x00\x00\xff\x80", 0, "\x00\xff", 3},
		{"\x00\x00\xff\x80", 2, "\x80\xff", 4},
		{"\x00\x00\xff\x80", 2, "\x00\x7f", 2},
		{"\\\\\\a", 0, "\\", 3},
		{"\\\n", 0, "\n", 0},
		{"\n\n", 0, "\n", 2},
		{"--+", 0, "+--", 3},
	} {
		answers(t, x.s, x.at, skip(x.of), strconv.Itoa(x.behind-x.at), x.behind)
	}
	c := scan.Open([]byte("  x"))
	if n := c.Skip(); n != 0 || c.At() != 0 {
		t.Errorf("Skip of nothing: %d, and the place %d", n, c.At())
	}
	if n := c.Skip(' ', ' '); n != 2 || c.At() != 2 {
		t.Errorf("Skip of a blank, twice: %d, and the place %d", n, c.At())
	}
	if n := c.Skip(' '); n != 0 || c.At() != 2 {
		t.Errorf("Skip of what doesn't stand there: %d, and the place %d", n, c.At())
	}
}

// P14.1: Skip of each byte alone passes over that byte and no other; of all, over all.
func TestSkipOfEachByte(t *testing.T) {
	all := allBytes()
	for c := range 256 {
		by := string([]byte{byte(c)})
		answers(t, by+by+by, 0, skip(by), "3", 3)
		for d := range 256 {
			if d != c {
				answers(t, string([]byte{byte(d)})+by, 0, skip(by), "0", 0)
			}
		}
		answers(t, all, c, skip(by), "1", c+1)
		answers(t, by+all, 0, skip(strings.Replace(all, by, "", 1)), "0", 0)
	}
	answers(t, all+all, 0, skip(all), "512", 512)
	answers(t, all+all, 99, skip(all+all), "413", 512)
	answers(t, all+all, 512, skip(all), "0", 512)
}

// P14.1: Word passes over a label's bytes: letters, digits, and _ .
func TestWord(t *testing.T) {
	for _, x := range []struct {
		s    string
		at   int
		want string
	}{
		{"lab_1;rest", 0, "lab_1"},
		{"lab_1;rest", 3, "_1"},
		{"lab_1;rest", 5, ""},
		{"lab_1;rest", 6, "rest"},
		{"lab_1;rest", 10, ""},
		{" a", 0, ""},
		{"a b", 0, "a"},
		{"a\nb", 0, "a"},
		{"0", 0, "0"},
		{"___", 0, "___"},
		{"a@b", 0, "a"}, {"a[b", 0, "a"}, {"a`b", 0, "a"}, {"a{b", 0, "a"}, {"a/b", 0, "a"}, {"a:b", 0, "a"},
		{"a-b", 0, "a"}, {"a^b", 0, "a"}, {"a]b", 0, "a"}, {"a\\b", 0, "a"},
		{"a\x80", 0, "a"}, {"a\xe9b", 0, "a"}, {"a\xff", 0, "a"}, {"a\x00b", 0, "a"}, {"\xaa\xb5", 0, ""},
		{"AZaz09_@", 0, "AZaz09_"},
		{labels, 0, labels},
		{labels + ";", 0, labels},
		{strings.Repeat("a_0", 1000) + " ", 0, strings.Repeat("a_0", 1000)},
	} {
		answers(t, x.s, x.at, word(), strconv.Quote(x.want), x.at+len(x.want))
	}
}

// P14.1: each of the 256 bytes is a label's, or isn't: alone, as the first, between others, and as the last.
func TestWordOfEachByte(t *testing.T) {
	for c := range 256 {
		by := string([]byte{byte(c)})
		if has(labels, byte(c)) {
			answers(t, by, 0, word(), strconv.Quote(by), 1)
			answers(t, "x"+by+"y ", 0, word(), strconv.Quote("x"+by+"y"), 3)
			answers(t, ";"+by+"y", 1, word(), strconv.Quote(by+"y"), 3)
			answers(t, "x"+by, 0, word(), strconv.Quote("x"+by), 2)
		} else {
			answers(t, by, 0, word(), `""`, 0)
			answers(t, "x"+by+"y ", 0, word(), `"x"`, 1)
			answers(t, ";"+by+"y", 1, word(), `""`, 1)
			answers(t, "x"+by, 0, word(), `"x"`, 1)
		}
	}
}

// P14.1: Rest goes behind the newline, or to the end; a \ means nothing to it.
func TestRest(t *testing.T) {
	for _, x := range []struct {
		s      string
		at     int
		want   string
		behind int
	}{
		{"ab\ncd", 0, "ab", 3},
		{"ab\ncd", 1, "b", 3},
		{"ab\ncd", 2, "", 3},
		{"ab\ncd", 3, "cd", 5},
		{"ab\ncd", 4, "d", 5},
		{"ab\ncd", 5, "", 5},
		{"ab", 0, "ab", 2},
		{"ab\n", 0, "ab", 3},
		{"ab\n", 3, "", 3},
		{"\n", 0, "", 1},
		{"\n\n", 0, "", 1},
		{"\n\na", 1, "", 2},
		{"a\\\nb\n", 0, "a\\", 3},
		{"a\\\\\nb\n", 0, "a\\\\", 4},
		{"a\\\nb\n", 2, "", 3},
		{"a\\", 0, "a\\", 2},
		{"\\", 0, "\\", 1},
		{" a;b}#c/ \t\r", 0, " a;b}#c/ \t\r", 11},
		{"\x00\xff\n\x80", 0, "\x00\xff", 3},
	} {
		answers(t, x.s, x.at, rest(), strconv.Quote(x.want), x.behind)
	}
}

// P14.1: Rest twice, and again, one behind the other: each line, then nothing.
func TestRestAgain(t *testing.T) {
	c := scan.Open([]byte("one\n\ntwo\\\nthree"))
	for _, x := range []struct {
		want string
		at   int
	}{{"one", 4}, {"", 5}, {"two\\", 10}, {"three", 15}, {"", 15}, {"", 15}} {
		if b := c.Rest(); string(b) != x.want || c.At() != x.at {
			t.Errorf("Rest: %q, and the place %d; want %q, and %d", b, c.At(), x.want, x.at)
		}
	}
}

// P14.2: Num tells the number of all digits there, and goes behind them.
func TestNum(t *testing.T) {
	greatest := strconv.Itoa(math.MaxInt)
	for _, x := range []struct {
		s         string
		at, most  int
		n, behind int
	}{
		{"0", 0, 0, 0, 1},
		{"7", 0, 7, 7, 1},
		{"12,", 0, 12, 12, 2},
		{"12,", 0, 99, 12, 2},
		{"12,", 1, 12, 2, 2},
		{"a 0042b", 2, 42, 42, 6},
		{"a 0042b", 3, 42, 42, 6},
		{"a 0042b", 4, 42, 42, 6},
		{"0042", 0, 100, 42, 4},
		{"000", 0, 0, 0, 3},
		{"000", 1, 0, 0, 3},
		{"000x", 0, 9, 0, 3},
		{"1 2", 0, 9, 1, 1},
		{"1 2", 2, 9, 2, 3},
		{"1/2", 0, 9, 1, 1},
		{"1:2", 0, 9, 1, 1},
		{"1\n2", 0, 9, 1, 1},
		{"1-2", 0, 9, 1, 1},
		{"1\xff", 0, 9, 1, 1},
		{"0x10", 0, 99, 0, 1},
		{"1_0", 0, 99, 1, 1},
		{"2147483648", 0, api.MaxNumber, 1 << 31, 10},
		{greatest, 0, math.MaxInt, math.MaxInt, 19},
		{greatest, 1, math.MaxInt, 223372036854775807, 19},
		{strings.Repeat("0", 5000) + "5", 0, 5, 5, 5001},
		{strings.Repeat("0", 5000) + greatest + "z", 0, math.MaxInt, math.MaxInt, 5019},
	} {
		answers(t, x.s, x.at, num(x.most), aNumber(x.n, api.OK), x.behind)
	}
}

// P14.2: Num's errors; the place stays.
func TestNumErrors(t *testing.T) {
	for _, x := range []struct {
		s        string
		at, most int
		e        api.Errno
	}{
		{"", 0, 9, api.ErrForm},
		{"a", 0, 9, api.ErrForm},
		{"a1", 0, 9, api.ErrForm},
		{"1a", 1, 9, api.ErrForm},
		{"12", 2, 9, api.ErrForm},
		{" 1", 0, 9, api.ErrForm},
		{"-1", 0, 9, api.ErrForm},
		{"+1", 0, 9, api.ErrForm},
		{"/1", 0, 9, api.ErrForm},
		{":1", 0, 9, api.ErrForm},
		{"\\1", 0, 9, api.ErrForm},
		{"\n1", 0, 9, api.ErrForm},
		{"\x00", 0, 9, api.ErrForm},
		{"\xb2", 0, 9, api.ErrForm},
		{"a", 0, -1, api.ErrForm},
		{"a", 0, math.MinInt, api.ErrForm},
		{"1", 0, 0, api.ErrRange},
		{"001", 0, 0, api.ErrRange},
		{"0", 0, -1, api.ErrRange},
		{"000", 0, -1, api.ErrRange},
		{"0", 0, math.MinInt, api.ErrRange},
		{"5", 0, -5, api.ErrRange},
		{"12", 0, 11, api.ErrRange},
		{"x12", 1, 11, api.ErrRange},
		{"x12", 1, 1, api.ErrRange},
		{"12,", 0, 11, api.ErrRange},
		{"120", 0, 12, api.ErrRange},
		{"2147483649", 0, api.MaxNumber, api.ErrRange},
		{"9223372036854775808", 0, math.MaxInt, api.ErrRange},
		{"9223372036854775817", 0, math.MaxInt, api.ErrRange},
		{"18446744073709551616", 0, math.MaxInt, api.ErrRange},
		{"18446744073709551617", 0, 1, api.ErrRange},
		{"00018446744073709551617", 0, 1, api.ErrRange},
		{strings.Repeat("9", 5000), 0, math.MaxInt, api.ErrRange},
		{strings.Repeat("9", 5000), 4980, math.MaxInt, api.ErrRange},
	} {
		answers(t, x.s, x.at, num(x.most), aNumber(0, x.e), x.at)
	}
}

// P14.2: behind an error of Num a greater most finds the number where it was.
func TestNumAgain(t *testing.T) {
	c := scan.Open([]byte("12,"))
	for _, x := range []struct {
		most, n int
		e       api.Errno
		at      int
	}{{-1, 0, api.ErrRange, 0}, {11, 0, api.ErrRange, 0}, {12, 12, api.OK, 2}, {12, 0, api.ErrForm, 2}} {
		if n, e := c.Num(x.most); n != x.n || e != x.e || c.At() != x.at {
			t.Errorf("Num(%d): %d, %v, and the place %d; want %d, %v, and %d", x.most, n, e, c.At(), x.n, x.e, x.at)
		}
	}
}

// P14.2: Until tells the bytes ahead of the next delimiter that no \ takes along, each \ among them.
func TestUntil(t *testing.T) {
	for _, x := range []struct {
		s      string
		at     int
		delim  byte
		want   string
		behind int
	}{
		{`a\/b/c`, 0, '/', `a\/b`, 5},
		{`a/b`, 0, '/', `a`, 2},
		{`/`, 0, '/', ``, 1},
		{`//`, 0, '/', ``, 1},
		{`//`, 1, '/', ``, 2},
		{`a//b`, 0, '/', `a`, 2},
		{`a//b`, 2, '/', ``, 3},
		{`\//`, 0, '/', `\/`, 3},
		{`\/\//`, 0, '/', `\/\/`, 5},
		{`\\/x/`, 0, '/', `\\`, 3},
		{`\\\/x/`, 0, '/', `\\\/x`, 6},
		{`\\\\/x/`, 0, '/', `\\\\`, 5},
		{"\\\n/", 0, '/', "\\\n", 3},
		{"a\\\nb\\\n\\/c/d", 0, '/', "a\\\nb\\\n\\/c", 10},
		{`\a\n\1\.\;/`, 0, '/', `\a\n\1\.\;`, 11},
		{`a/b\`, 0, '/', `a`, 2},
		{`a/b\`, 2, '/', ``, 0},
		{"a/\n", 0, '/', `a`, 2},
		{"a/b\nc/", 4, '/', `c`, 6},
		{"\n/", 1, '/', ``, 2},
		{`[/]/`, 0, '/', `[`, 2},
		{`a;b/c`, 0, ';', `a`, 2},
		{`a;b/c`, 0, '/', `a;b`, 4},
		{`a_b`, 0, '_', `a`, 2},
		{"\x00\xff|", 0, '|', "\x00\xff", 3},
		// What stands ahead of the place counts for nothing.
		{`\/b/`, 1, '/', ``, 2},
		{`\\/b/`, 1, '/', `\/b`, 5},
		{`\\/b/`, 2, '/', ``, 3},
		{`a\/b/c`, 2, '/', ``, 3},
		{"\\\n/", 2, '/', ``, 3},
	} {
		if x.behind == 0 {
			answers(t, x.s, x.at, until(x.delim), aText("", api.ErrDelim), x.at)
		} else {
			answers(t, x.s, x.at, until(x.delim), aText(x.want, api.OK), x.behind)
		}
	}
}

// P14.2: Until where the end, or a newline that no \ takes along, comes ahead: the place stays.
func TestUntilWithoutEnd(t *testing.T) {
	for _, x := range []struct {
		s  string
		at int
	}{
		{"", 0},
		{"a", 0},
		{"a", 1},
		{"a/", 2},
		{"a;", 0},
		{`\/`, 0},
		{`a\/`, 0},
		{`a\/b`, 0},
		{`\\\/`, 0},
		{`\`, 0},
		{`a\`, 0},
		{`\\`, 0},
		{`\\\`, 0},
		{`a/\`, 2},
		{"\n", 0},
		{"\n/", 0},
		{"a\n/", 0},
		{"a\n/", 1},
		{"\\\\\n/", 0},
		{"\\\n\n/", 0},
		{"\\\\\\\n\n/", 0},
		{"\\/\n/", 0},
		{"\\a\n/", 0},
		// What stands ahead of the place counts for nothing.
		{"\\\n/", 1},
		{"\\\\\n/", 2},
		{"\\\\/", 1},
		{"a\\\n/", 2},
	} {
		answers(t, x.s, x.at, until('/'), aText("", api.ErrDelim), x.at)
	}
}

// P14.2: Until with each of the 256 bytes: it ends at a delimiter, and whatever else is told is ErrDelim.
func TestUntilOfEachByte(t *testing.T) {
	for c := range 256 {
		by := string([]byte{byte(c)})
		x := until(byte(c))
		if !scan.IsDelim(byte(c)) {
			for _, s := range []string{"", by, "a" + by + "b", by + by, `\` + by + by, "a", "a\n" + by} {
				answers(t, s, 0, x, aText("", api.ErrDelim), 0)
				answers(t, "x"+s, 1, x, aText("", api.ErrDelim), 1)
			}
			continue
		}
		answers(t, by, 0, x, aText("", api.OK), 1)
		answers(t, "a"+by+"b"+by, 0, x, aText("a", api.OK), 2)
		answers(t, `a\`+by+"b"+by, 0, x, aText(`a\`+by+"b", api.OK), 5)
		answers(t, `a\\`+by+"b"+by, 0, x, aText(`a\\`, api.OK), 4)
		answers(t, `a\\\`+by+"b"+by, 0, x, aText(`a\\\`+by+"b", api.OK), 7)
		answers(t, `a\`+by, 0, x, aText("", api.ErrDelim), 0)
		others := strings.NewReplacer(by, "", "\n", "", `\`, "").Replace(allBytes())
		answers(t, others+by, 0, x, aText(others, api.OK), len(others)+1)
		answers(t, others, 0, x, aText("", api.ErrDelim), 0)
		answers(t, "a\n"+by, 0, x, aText("", api.ErrDelim), 0)
	}
}

// P14.2: a \ takes along each byte, so that it ends nothing and takes nothing along.
func TestTakenAlong(t *testing.T) {
	for c := range 256 {
		by := string([]byte{byte(c)})
		answers(t, `\`+by+"/", 0, until('/'), aText(`\`+by, api.OK), 3)
		answers(t, `\`+by+`\`+by+"/\n", 0, until('/'), aText(`\`+by+`\`+by, api.OK), 5)
		answers(t, `\`+by, 0, text(), aText(by+"\n", api.OK), 2)
		answers(t, `\`+by+"\nz", 0, text(), aText(by+"\n", api.OK), 3)
		answers(t, `a\`+by+"b\nz", 0, text(), aText("a"+by+"b\n", api.OK), 5)
		answers(t, `a\\`+"\n"+by, 0, text(), aText("a\\\n", api.OK), 4)
		if by != "\n" && by != `\` {
			answers(t, by, 0, text(), aText(by+"\n", api.OK), 1)
			answers(t, "a"+by+"b\nz", 0, text(), aText("a"+by+"b\n", api.OK), 4)
		}
	}
}

// P14.2: Text tells the bytes up to a newline that no \ takes along, or the end, without each \ that takes one along, and a newline.
func TestText(t *testing.T) {
	for _, x := range []struct {
		s      string
		at     int
		want   string
		behind int
	}{
		{"", 0, "\n", 0},
		{"a", 0, "a\n", 1},
		{"a", 1, "\n", 1},
		{"ab\n", 0, "ab\n", 3},
		{"ab\n", 3, "\n", 3},
		{"ab\ncd\nef", 0, "ab\n", 3},
		{"ab\ncd\nef", 3, "cd\n", 6},
		{"ab\ncd\nef", 4, "d\n", 6},
		{"ab\ncd\nef", 6, "ef\n", 8},
		{"\n", 0, "\n", 1},
		{"\n\n", 0, "\n", 1},
		{"\nab", 0, "\n", 1},
		{"a\\\nb\nc", 0, "a\nb\n", 5},
		{"a\\\nb", 0, "a\nb\n", 4},
		{"a\\\n", 0, "a\n\n", 3},
		{"\\\n", 0, "\n\n", 2},
		{"\\\n\\\n", 0, "\n\n\n", 4},
		{"\\\n\n", 0, "\n\n", 3},
		{"\\\\\nb", 0, "\\\n", 3},
		{"\\\\\\\nb", 0, "\\\nb\n", 5},
		{"\\\\\\\\\nb", 0, "\\\\\n", 5},
		{"a\\bc\\\\d", 0, "abc\\d\n", 7},
		{"\\n\\t\\1\\&", 0, "nt1&\n", 8},
		{"\\ a", 0, " a\n", 3},
		{"  a ", 0, "  a \n", 4},
		{"a;b}#c/\r\t", 0, "a;b}#c/\r\t\n", 9},
		{"\x00\xff\\\x80\n", 0, "\x00\xff\x80\n", 5},
		{"a\nb\\", 0, "a\n", 2},
		// What stands ahead of the place counts for nothing.
		{"\\\nb", 1, "\n", 2},
		{"\\\\\nb", 1, "\nb\n", 4},
		{"\\\\\nb", 2, "\n", 3},
		{"a\\\\b", 2, "b\n", 4},
		{"a\\", 2, "\n", 2},
	} {
		answers(t, x.s, x.at, text(), aText(x.want, api.OK), x.behind)
	}
}

// P14.2: Text's error: a \ ends the text, and takes nothing along; the place stays, and the error comes again.
func TestTextErrors(t *testing.T) {
	for _, x := range []struct {
		s  string
		at int
	}{
		{`\`, 0},
		{`a\`, 0},
		{`a\`, 1},
		{`\\\`, 0},
		{`\\`, 1},
		{`a\b\`, 0},
		{"\\\n\\", 0},
		{"a\\\nb\\", 0},
		{"a\n\\", 2},
		{"a\nb\\", 2},
		{"\\\\\n\\", 3},
		{"\n\\", 1},
		{"\\\n\\", 2},
	} {
		answers(t, x.s, x.at, text(), aText("", api.ErrEscape), x.at)
		c, m := standing(t, x.s, x.at)
		for range 3 {
			agree(t, c, m, text())
		}
	}
}

// P14.2: Text one behind the other: each text, at the end a newline alone, as often as one asks.
func TestTextAgain(t *testing.T) {
	c := scan.Open([]byte("ab\\\ncd\\\\\nend"))
	for _, x := range []struct {
		want string
		at   int
	}{{"ab\ncd\\\n", 9}, {"end\n", 12}, {"\n", 12}, {"\n", 12}} {
		if b, e := c.Text(); string(b) != x.want || e != api.OK || c.At() != x.at {
			t.Errorf("Text: %q, %v, and the place %d; want %q, and %d", b, e, c.At(), x.want, x.at)
		}
	}
	c = scan.Open([]byte("a\nb\\"))
	if b, e := c.Text(); string(b) != "a\n" || e != api.OK || c.At() != 2 {
		t.Errorf("Text: %q, %v, and the place %d", b, e, c.At())
	}
	if b, e := c.Text(); len(b) != 0 || e != api.ErrEscape || c.At() != 2 {
		t.Errorf("Text: %q, %v, and the place %d", b, e, c.At())
	}
	if b := c.Rest(); string(b) != `b\` || c.At() != 4 {
		t.Errorf("Rest: %q, and the place %d", b, c.At())
	}
}

// P14.2: beside an error nothing is told.
func TestNothingBesideErrors(t *testing.T) {
	c := scan.Open([]byte(`99a\`))
	if n, e := c.Num(98); n != 0 || e != api.ErrRange {
		t.Errorf("Num: %d, %v", n, e)
	}
	if b, e := c.Until('/'); len(b) != 0 || e != api.ErrDelim {
		t.Errorf("Until: %q, %v", b, e)
	}
	if b, e := c.Until('9'); len(b) != 0 || e != api.ErrDelim {
		t.Errorf("Until: %q, %v", b, e)
	}
	if b, e := c.Text(); len(b) != 0 || e != api.ErrEscape {
		t.Errorf("Text: %q, %v", b, e)
	}
	if c.At() != 0 {
		t.Errorf("the place is %d", c.At())
	}
}

// P14.1, P14.2: each call at each place of all short texts.
func TestShortTexts(t *testing.T) {
	calls := someCalls()
	for _, s := range shortTexts("a/\\\n 1", 4) {
		for place := range len(s) + 1 {
			for _, x := range calls {
				c, m := standing(t, s, place)
				agree(t, c, m, x)
				agree(t, c, m, peek())
			}
		}
	}
	for _, s := range shortTexts("/\\\n", 7) {
		for place := range len(s) + 1 {
			for _, x := range []call{until('/'), text(), rest()} {
				c, m := standing(t, s, place)
				for range 3 {
					agree(t, c, m, x)
				}
			}
		}
	}
}

// P14.1, P14.2: any two calls one behind the other, of any text.
func TestPairsOfCalls(t *testing.T) {
	calls := someCalls()
	for _, s := range []string{
		"", "a", "\\", "\n", "12,/a\\/b/ lab_1;rest of\nab\\\ncd\\\\\nend", "//a/\n\n/b\\", "10 /x;\\;y\\\n/;\n1", "\\\n\\/\\\\/\\",
	} {
		for place := range len(s) + 1 {
			for _, x := range calls {
				for _, y := range calls {
					c, m := standing(t, s, place)
					agree(t, c, m, x)
					agree(t, c, m, y)
				}
			}
		}
	}
}

// P14.1, P14.2: long rows of calls, in any order.
func TestRowsOfCalls(t *testing.T) {
	x := numbers(14)
	calls := someCalls()
	for c := range 256 {
		calls = append(calls, until(byte(c)), skip(string([]byte{byte(c)})))
	}
	all := allBytes()
	for range 20000 {
		of := []string{"a/\\\n 1;_", "/\\\n", all, delims + "\\\n", labels + " \n", "0123456789 ,"}[x.Intn(6)]
		s := x.textOf(of, 60)
		c, m := scan.Open([]byte(s)), &model{text: s}
		for range 30 {
			i := x.Intn(2 * len(calls))
			agree(t, c, m, calls[i%len(someCalls())])
			if i < len(calls) {
				agree(t, c, m, calls[i])
			}
		}
	}
}

// P14.1, P14.2: long texts.
func TestLongTexts(t *testing.T) {
	const many = 1 << 20
	for _, unit := range []string{"a", `\\`, `\/`, "\\\n", "_1"} {
		s := strings.Repeat(unit, many)
		meant := strings.Repeat(unit[len(unit)-1:], many)
		if unit == "_1" {
			meant = s
		}
		c := scan.Open([]byte(s + "/\n\\"))
		if b, e := c.Until('/'); string(b) != s || e != api.OK || c.At() != len(s)+1 {
			t.Errorf("Until of many %q: %d bytes, %v, and the place %d", unit, len(b), e, c.At())
		}
		if _, e := c.Until('/'); e != api.ErrDelim || c.At() != len(s)+1 {
			t.Errorf("Until behind many %q: %v, and the place %d", unit, e, c.At())
		}
		c = scan.Open([]byte(s + "\n/"))
		if _, e := c.Until('/'); e != api.ErrDelim || c.At() != 0 {
			t.Errorf("Until of many %q and a newline: %v, and the place %d", unit, e, c.At())
		}
		if b, e := c.Text(); string(b) != meant+"\n" || e != api.OK || c.At() != len(s)+1 {
			t.Errorf("Text of many %q: %d bytes, %v, and the place %d", unit, len(b), e, c.At())
		}
		c = scan.Open([]byte(s + "\\"))
		if _, e := c.Text(); e != api.ErrEscape || c.At() != 0 {
			t.Errorf("Text of many %q and a \\: %v, and the place %d", unit, e, c.At())
		}
		if n := c.Skip([]byte(unit)...); n != len(s)+strings.Count(unit[:1], `\`) || c.At() != n {
			t.Errorf("Skip of many %q: %d, and the place %d", unit, n, c.At())
		}
	}
	s := strings.Repeat(labels, many/len(labels))
	c := scan.Open([]byte(s + "\n"))
	if w := c.Word(); w != s || c.At() != len(s) {
		t.Errorf("Word of many bytes: %d, and the place %d", len(w), c.At())
	}
	c = scan.Open([]byte(s + "\n"))
	if b := c.Rest(); string(b) != s || c.At() != len(s)+1 {
		t.Errorf("Rest of many bytes: %d, and the place %d", len(b), c.At())
	}
}

// P14.3: of a nil *Cursor: 0, false, nothing, and ErrArg of Num, Until and Text, whatever they are handed.
func TestNilCursor(t *testing.T) {
	var c *scan.Cursor
	for range 2 {
		if c.At() != 0 || c.Skip() != 0 || c.Skip(0) != 0 || c.Skip([]byte(allBytes())...) != 0 || c.Word() != "" || len(c.Rest()) != 0 {
			t.Errorf("nil: At, Skip, Word, or Rest")
		}
		if b, ok := c.Peek(); b != 0 || ok {
			t.Errorf("nil: Peek: %d, %v", b, ok)
		}
		if b, ok := c.Next(); b != 0 || ok {
			t.Errorf("nil: Next: %d, %v", b, ok)
		}
		for _, most := range []int{math.MinInt, -1, 0, 1, math.MaxInt} {
			if n, e := c.Num(most); n != 0 || e != api.ErrArg {
				t.Errorf("nil: Num(%d): %d, %v", most, n, e)
			}
		}
		for delim := range 256 {
			if b, e := c.Until(byte(delim)); len(b) != 0 || e != api.ErrArg {
				t.Errorf("nil: Until(%d): %q, %v", delim, b, e)
			}
		}
		if b, e := c.Text(); len(b) != 0 || e != api.ErrArg {
			t.Errorf("nil: Text: %q, %v", b, e)
		}
	}
}

// R4: a cursor keeps its text by its values alone, and doesn't change it, nor what lies behind it.
func TestTextIsKept(t *testing.T) {
	s := "12 lab a\\/b/ rest\ntext\\\nmore\n"
	whole := []byte(s + "behind/\\\n")
	c := scan.Open(whole[:len(s)])
	m := &model{text: s}
	for _, x := range []call{num(99), skip(" "), word(), skip(" "), until('/'), rest()} {
		agree(t, c, m, x)
	}
	if string(whole) != s+"behind/\\\n" {
		t.Fatalf("what was handed in is %q", whole)
	}
	for i := range whole {
		whole[i] = '#'
	}
	for _, x := range []call{peek(), text(), text(), rest(), next()} {
		agree(t, c, m, x)
	}
}

// R4: Skip changes nothing of the bytes that it is handed, nor keeps them.
func TestSkipLeavesBytes(t *testing.T) {
	c := scan.Open([]byte("ba;ab"))
	of := []byte("abab;")
	if n := c.Skip(of[:2]...); n != 2 || string(of) != "abab;" {
		t.Errorf("Skip: %d, and the bytes %q", n, of)
	}
	of[0] = ';'
	if n := c.Skip(of[:1]...); n != 1 || string(of) != ";bab;" {
		t.Errorf("Skip: %d, and the bytes %q", n, of)
	}
}

// spoil writes over b, and over all that lies behind it in its memory.
func spoil(b []byte) {
	b = b[:cap(b)]
	for i := range b {
		b[i] = '\\'
	}
}

// R4: what Until, Rest and Text answer may be written over, and nothing else changes by it.
func TestAnswersAreNew(t *testing.T) {
	s := "ab/cd/\nrest\n\nte\\xt\nmore\n/end"
	for _, asks := range []func(c *scan.Cursor) []byte{
		func(c *scan.Cursor) []byte { b, _ := c.Until('/'); return b },
		func(c *scan.Cursor) []byte { b, _ := c.Text(); return b },
		(*scan.Cursor).Rest,
	} {
		for place := range len(s) + 1 {
			c, m := standing(t, s, place)
			first := asks(c)
			m.at = c.At()
			kept := bytes.Clone(first)
			spoil(asks(c))
			if !slices.Equal(first, kept) {
				t.Fatalf("at %d: %q has become %q", place, kept, first)
			}
			c, m = standing(t, s, place)
			spoil(asks(c))
			m.at = c.At()
			for range len(s) - m.at + 1 {
				agree(t, c, m, next())
			}
		}
	}
}

// R4: cursors over the same bytes go on by themselves.
func TestTwoCursors(t *testing.T) {
	b := []byte("ab/c\nd")
	one, two := scan.Open(b), scan.Open(b)
	m, n := &model{text: string(b)}, &model{text: string(b)}
	for _, x := range []call{until('/'), rest(), text()} {
		agree(t, one, m, x)
		agree(t, two, n, at())
	}
	for _, x := range []call{text(), rest()} {
		agree(t, two, n, x)
		agree(t, one, m, at())
	}
}
