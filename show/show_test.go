package show_test

import (
	"bytes"
	"fmt"
	"math"
	"regexp"
	"slices"
	"strconv"
	"strings"
	"testing"

	"palinode/api"
	"palinode/show"
)

// markOf tells a byte's mark by the chapter's words.
func markOf(c byte) string {
	switch c {
	case '\\':
		return `\\`
	case 7:
		return `\a`
	case 8:
		return `\b`
	case 9:
		return `\t`
	case 10:
		return `\n`
	case 11:
		return `\v`
	case 12:
		return `\f`
	case 13:
		return `\r`
	}
	if strings.IndexByte(` !"#$%&'()*+,-./0123456789:;<=>?@ABCDEFGHIJKLMNOPQRSTUVWXYZ[]^_abcdefghijklmnopqrstuvwxyz{|}~`+"`", c) >= 0 {
		return string([]byte{c})
	}
	return fmt.Sprintf(`\%03o`, c)
}

// marksOf tells the marks of all bytes, one behind the other.
func marksOf(b []byte) string {
	var s strings.Builder
	for _, c := range b {
		s.WriteString(markOf(c))
	}
	return s.String()
}

// quoteOf tells the quote of a text: its only marks with a " are those of ".
func quoteOf(b []byte) string {
	return `"` + strings.ReplaceAll(marksOf(b), `"`, `\"`) + `"`
}

// everyByte has the bytes 0 to 255.
func everyByte() []byte {
	var b []byte
	for c := range 256 {
		b = append(b, byte(c))
	}
	return b
}

// shortTexts are all texts of at most so many bytes of these.
func shortTexts(of string, most int) []string {
	all := []string{""}
	from := 0
	for range most {
		end := len(all)
		for _, s := range all[from:end] {
			for _, c := range []byte(of) {
				all = append(all, s+string([]byte{c}))
			}
		}
		from = end
	}
	return all
}

// someTexts have marks of one, two and four bytes, in rows short and long.
func someTexts() [][]byte {
	all := [][]byte{nil, everyByte(), bytes.Repeat([]byte("ab\x00\\\n"), 99)}
	for n := range 12 {
		for _, s := range []string{"a", "\\", "\n", "\xff", "a\n", "a\xff", "\\\x00", "a\n\x80", "\"$"} {
			all = append(all, bytes.Repeat([]byte(s), n+1), []byte("x"+strings.Repeat(s, n)), []byte(strings.Repeat(s, n)+"\x7f"))
		}
	}
	return all
}

// P4.1: each byte's mark, in a list and in a quote.
func TestMarks(t *testing.T) {
	for _, c := range everyByte() {
		b := []byte{c}
		if got, want := string(show.List(b, 0)), markOf(c)+"$"; got != want {
			t.Errorf("List(byte %d) = %q; want %q", c, got, want)
		}
		if got, want := show.Quote(b), quoteOf(b); got != want {
			t.Errorf("Quote(byte %d) = %q; want %q", c, got, want)
		}
	}
	if got := string(show.List([]byte("\""), 0)); got != "\"$" {
		t.Errorf("a \" in a list is %q", got)
	}
	if got := show.Quote([]byte("\"")); got != `"\""` {
		t.Errorf("a \" in a quote is %q", got)
	}
}

// P4.1: lists folded at numbers at which the lines are easily told by hand.
func TestList(t *testing.T) {
	for _, x := range []struct {
		s    string
		fold int
		want string
	}{
		{"", -1, "$"},
		{"", 0, "$"},
		{"", 1, "$"},
		{"", 2, "$"},
		{"", 70, "$"},
		{"\n", 0, `\n$`},
		{"\n", 2, `\n$`},
		{"\n", 3, `\n$`},
		{"ab cd", -5, "ab cd$"},
		{"ab cd", 0, "ab cd$"},
		{"ab cd", 1, "ab cd$"},
		{"abc", 2, "a\\\nb\\\nc$"},
		{"abc", 3, "ab\\\nc$"},
		{"abc", 4, "abc$"},
		{"abcd", 4, "abc\\\nd$"},
		{"abcd", 5, "abcd$"},
		{"abcdefghi", 5, "abcd\\\nefgh\\\ni$"},
		{"abcdefgh", 5, "abcd\\\nefgh$"},
		// A mark of two bytes ends a line, goes to the next one, or stands alone in one that is too long.
		{"ab\n", 5, `ab\n$`},
		{"abc\n", 5, "abc\\\n\\n$"},
		{"abcd\n", 5, "abcd\\\n\\n$"},
		{"a\\b", 2, "a\\\n\\\\\\\nb$"},
		{"\\\\\\", 3, "\\\\\\\n\\\\\\\n\\\\$"},
		// A mark of four bytes, likewise.
		{"\x01\x02", 5, "\\001\\\n\\002$"},
		{"a\x01", 5, "a\\\n\\001$"},
		{"a\x01", 6, `a\001$`},
		{"\x01a", 5, "\\001\\\na$"},
		{"\x01a", 6, `\001a$`},
		{"\x01\xff", 2, "\\001\\\n\\377$"},
		{"\x01\xff", 4, "\\001\\\n\\377$"},
		{"\x01\xff", 8, "\\001\\\n\\377$"},
		{"\x01\xff", 9, `\001\377$`},
		// A " is itself in a list, and a $ of the text is folded.
		{"\"$\"", 2, "\"\\\n$\\\n\"$"},
	} {
		if got := string(show.List([]byte(x.s), x.fold)); got != x.want {
			t.Errorf("List(%q, %d) = %q; want %q", x.s, x.fold, got, x.want)
		}
	}
}

// P4.1: below 2 nothing is folded, and neither at a number that no line reaches.
func TestListUnfolded(t *testing.T) {
	for _, b := range someTexts() {
		for _, fold := range []int{math.MinInt, math.MinInt + 1, -70, -2, -1, 0, 1, 4*len(b) + 2, math.MaxInt - 1, math.MaxInt} {
			if got, want := string(show.List(b, fold)), marksOf(b)+"$"; got != want {
				t.Errorf("List(%.40q, %d) = %.80q; want %.80q", b, fold, got, want)
			}
		}
	}
}

// linesOf tells the lines of a list without what folds it: no mark has a newline of its own.
func linesOf(t *testing.T, list string) []string {
	t.Helper()
	bare, ok := strings.CutSuffix(list, "$")
	if !ok {
		t.Fatalf("no $ at the end of %.80q", list)
	}
	all := strings.Split(bare, "\n")
	for i := range len(all) - 1 {
		if all[i], ok = strings.CutSuffix(all[i], `\`); !ok {
			t.Fatalf("a line without a \\ at its end in %.80q", list)
		}
	}
	return all
}

var oneMark = regexp.MustCompile(`^\\[0-7]{3}|^\\.|^.`)

// checkFolds checks that a line ends there alone where the next mark has no room, and there always.
func checkFolds(t *testing.T, b []byte, fold int) {
	t.Helper()
	all := linesOf(t, string(show.List(b, fold)))
	if got := strings.Join(all, ""); got != marksOf(b) {
		t.Errorf("List(%.40q, %d) without its folds is %.80q", b, fold, got)
	}
	for i, line := range all {
		if len(line) > fold-1 && oneMark.FindString(line) != line {
			t.Errorf("List(%.40q, %d) has the line %q, which is too long", b, fold, line)
		}
		if i == 0 {
			continue
		}
		first := oneMark.FindString(line)
		if ahead := all[i-1]; first == "" || ahead == "" || len(ahead)+len(first) <= fold-1 {
			t.Errorf("List(%.40q, %d) is folded between %q and %q", b, fold, ahead, line)
		}
	}
}

// P4.1: folds of texts with marks of one, two and four bytes at a line's end, at every number up to one that no line reaches.
func TestListFolds(t *testing.T) {
	for _, b := range someTexts() {
		for fold := 2; fold <= 80; fold++ {
			checkFolds(t, b, fold)
		}
	}
	for _, s := range shortTexts("a\n\xff", 6) {
		for fold := 2; fold <= 10; fold++ {
			checkFolds(t, []byte(s), fold)
		}
	}
}

// P4.1: a $ is never folded, however full the line ahead of it is.
func TestListDollar(t *testing.T) {
	for n := 2; n <= 80; n++ {
		full := strings.Repeat("x", n-1)
		if got := string(show.List([]byte(full), n)); got != full+"$" {
			t.Errorf("a full line folded at %d is %q", n, got)
		}
	}
}

// P4.1: quotes.
func TestQuote(t *testing.T) {
	for _, x := range []struct{ s, want string }{
		{"", `""`},
		{"a\"", `"a\""`},
		{"a b", `"a b"`},
		{"\"\"", `"\"\""`},
		{"\\", `"\\"`},
		{"\\\"", `"\\\""`},
		{"\\n\n", `"\\n\n"`},
		{"1\x002", `"1\0002"`},
		{"\x06\a\b\t\n\v\f\r\x0e", `"\006\a\b\t\n\v\f\r\016"`},
		{"\x1f ~\x7f\x80\xff", `"\037 ~\177\200\377"`},
		{"é", `"\303\251"`},
		{strings.Repeat("$", 200), `"` + strings.Repeat("$", 200) + `"`},
	} {
		if got := show.Quote([]byte(x.s)); got != x.want {
			t.Errorf("Quote(%q) = %q; want %q", x.s, got, x.want)
		}
	}
	for _, b := range someTexts() {
		if got, want := show.Quote(b), quoteOf(b); got != want {
			t.Errorf("Quote(%.40q) = %.80q; want %.80q", b, got, want)
		}
	}
}

// P4.1: no words, one and many, with blanks and of none.
func TestRow(t *testing.T) {
	for _, x := range []struct {
		words []string
		want  string
	}{
		{nil, ""},
		{[]string{}, ""},
		{[]string{""}, ""},
		{[]string{"a"}, "a"},
		{[]string{" a "}, " a "},
		{[]string{"", ""}, " "},
		{[]string{"a", "b"}, "a b"},
		{[]string{"a", "", "b"}, "a  b"},
		{[]string{"a ", " b"}, "a   b"},
		{[]string{"x\n", "\xff\x00", "\""}, "x\n \xff\x00 \""},
		{strings.Split(strings.Repeat("w,", 300)+"w", ","), strings.Repeat("w ", 300) + "w"},
	} {
		if got := show.Row(x.words...); got != x.want {
			t.Errorf("Row(%.80q) = %.80q; want %.80q", x.words, got, x.want)
		}
	}
	if got := show.Row(); got != "" {
		t.Errorf("Row() = %q", got)
	}
	if got := show.Row("step", "3", "line", "0"); got != "step 3 line 0" {
		t.Errorf("Row of four words = %q", got)
	}
}

func checkUnquote(t *testing.T, s string, at int, want string, next int, e api.Errno) {
	t.Helper()
	b, n, got := show.Unquote(s, at)
	if string(b) != want || n != next || got != e {
		t.Errorf("Unquote(%.60q, %d) = %.60q, %d, %d; want %.60q, %d, %d", s, at, b, n, got, want, next, e)
	}
}

// P4.2: quotes that are right, ahead of whatever stands behind them.
func TestUnquote(t *testing.T) {
	for _, x := range []struct {
		s    string
		at   int
		want string
		next int
	}{
		{`""`, 0, "", 2},
		{`"""`, 0, "", 2},
		{`"""`, 1, "", 3},
		{`"a"`, 0, "a", 3},
		{`"a"b"`, 0, "a", 3},
		{`"a"b"`, 2, "b", 5},
		{`x "a b" y`, 2, "a b", 7},
		{`"\""`, 0, `"`, 4},
		{`"\\"`, 0, `\`, 4},
		{`"\\""`, 0, `\`, 4},
		{`"\a\b\t\n\v\f\r"`, 0, "\a\b\t\n\v\f\r", 16},
		{`"\000\037\177\200\377"`, 0, "\x00\x1f\x7f\x80\xff", 22},
		{`"\1011"`, 0, "A1", 7},
		{`"\0007"`, 0, "\x007", 7},
		{`"\141\042\134"`, 0, `a"\`, 14},
		{`"\\101"`, 0, `\101`, 7},
		{`"\\n"`, 0, `\n`, 5},
		{"\"\n\"", 0, "\n", 3},
		{"\"\t\x00\x7f\x80\xff\r\"", 0, "\t\x00\x7f\x80\xff\r", 8},
		{"\"é\"", 0, "é", 4},
		{"\xff\"\xff\"\xff", 1, "\xff", 4},
		{`"a" \q`, 0, "a", 3},
		{`\q"a"`, 2, "a", 5},
		// A place may be that of a " that another quote has behind a \.
		{`"\"a"`, 2, "a", 5},
	} {
		checkUnquote(t, x.s, x.at, x.want, x.next, api.OK)
	}
}

// P4.2: what is no quote.
func TestUnquoteWrong(t *testing.T) {
	for _, x := range []struct {
		s  string
		at int
		e  api.Errno
	}{
		{``, 0, api.ErrForm},
		{`a`, 0, api.ErrForm},
		{`a"b"`, 0, api.ErrForm},
		{`"a"`, 1, api.ErrForm},
		{`"a"`, 3, api.ErrForm},
		{`\"`, 0, api.ErrForm},
		{` ""`, 0, api.ErrForm},
		{`'a'`, 0, api.ErrForm},
		{`"`, 0, api.ErrEnd},
		{`"a"`, 2, api.ErrEnd},
		{`"a`, 0, api.ErrEnd},
		{`"\"`, 0, api.ErrEnd},
		{`"\\`, 0, api.ErrEnd},
		{`"\\\"`, 0, api.ErrEnd},
		{`"\n`, 0, api.ErrEnd},
		{`"\101`, 0, api.ErrEnd},
		{`"\`, 0, api.ErrEnd},
		{`"\1`, 0, api.ErrEnd},
		{`"\7`, 0, api.ErrEnd},
		{`"\10`, 0, api.ErrEnd},
		{`"\40`, 0, api.ErrEnd},
		{`"\77`, 0, api.ErrEnd},
		{`"\8`, 0, api.ErrEscape},
		{`"\9`, 0, api.ErrEscape},
		{`"\18`, 0, api.ErrEscape},
		{`"\1"`, 0, api.ErrEscape},
		{`"\11"`, 0, api.ErrEscape},
		{`"\1a`, 0, api.ErrEscape},
		{`"\1\`, 0, api.ErrEscape},
		{`"\118"`, 0, api.ErrEscape},
		{`"\11/`, 0, api.ErrEscape},
		{`"\400`, 0, api.ErrEscape},
		{`"\400"`, 0, api.ErrEscape},
		{`"\777"`, 0, api.ErrEscape},
		{`"\x41"`, 0, api.ErrEscape},
		{`"\u0041"`, 0, api.ErrEscape},
		{`"\'"`, 0, api.ErrEscape},
		{`"\e"`, 0, api.ErrEscape},
		{`"\N"`, 0, api.ErrEscape},
		{"\"\\\n\"", 0, api.ErrEscape},
		{"\"\\\x00\"", 0, api.ErrEscape},
		{"\"\\\xff\"", 0, api.ErrEscape},
		// The first fault is told, and what stands ahead of it with it no more.
		{`"a\q\400`, 0, api.ErrEscape},
		{`"a\n\q`, 0, api.ErrEscape},
		{`"a\q"`, 0, api.ErrEscape},
	} {
		checkUnquote(t, x.s, x.at, "", 0, x.e)
	}
}

// P4.2: places below 0, at the end and above it, ahead of all other faults.
func TestUnquotePlaces(t *testing.T) {
	for _, s := range []string{"", "a", `"`, `"a"`, `"a`, `"\q"`, `"\`, `"a""b"`} {
		for _, at := range []int{math.MinInt, -2, -1, len(s) + 1, len(s) + 2, math.MaxInt} {
			checkUnquote(t, s, at, "", 0, api.ErrArg)
		}
		checkUnquote(t, s, len(s), "", 0, api.ErrForm)
	}
}

// P4.2: every byte behind a \, ahead of a " and at the end.
func TestUnquoteBehindBackslash(t *testing.T) {
	means := map[byte]byte{'\\': '\\', '"': '"', 'a': 7, 'b': 8, 't': 9, 'n': 10, 'v': 11, 'f': 12, 'r': 13}
	for _, c := range everyByte() {
		s := `"\` + string([]byte{c})
		m, ok := means[c]
		digit := c >= '0' && c <= '7'
		switch {
		case ok:
			checkUnquote(t, s+`"`, 0, string([]byte{m}), 4, api.OK)
			checkUnquote(t, s, 0, "", 0, api.ErrEnd)
		case digit:
			checkUnquote(t, s+`"`, 0, "", 0, api.ErrEscape)
			checkUnquote(t, s, 0, "", 0, api.ErrEnd)
		default:
			checkUnquote(t, s+`"`, 0, "", 0, api.ErrEscape)
			checkUnquote(t, s, 0, "", 0, api.ErrEscape)
			checkUnquote(t, s+"00\"", 0, "", 0, api.ErrEscape)
		}
	}
}

// P4.2: all rows of three digits of base 8, those above 255 too, and every byte in the place of each digit.
func TestUnquoteOctal(t *testing.T) {
	for n := range 512 {
		s := fmt.Sprintf(`"\%03o"`, n)
		if n <= 255 {
			checkUnquote(t, s, 0, string([]byte{byte(n)}), 6, api.OK)
		} else {
			checkUnquote(t, s, 0, "", 0, api.ErrEscape)
		}
		checkUnquote(t, s[:4], 0, "", 0, api.ErrEnd)
	}
	for _, c := range everyByte() {
		one := string([]byte{c})
		if c >= '0' && c <= '7' {
			checkUnquote(t, `"\0`+one+`7"`, 0, string([]byte{8*(c-'0') + 7}), 6, api.OK)
			checkUnquote(t, `"\07`+one+`"`, 0, string([]byte{56 + c - '0'}), 6, api.OK)
			continue
		}
		for _, s := range []string{`"\0` + one, `"\00` + one, `"\0` + one + `7"`, `"\07` + one + `"`, `"\7` + one, `"\77` + one} {
			checkUnquote(t, s, 0, "", 0, api.ErrEscape)
		}
	}
}

// P4.2: each byte but \ and " stands for itself in a quote.
func TestUnquoteBytes(t *testing.T) {
	for _, c := range everyByte() {
		if c != '"' && c != '\\' {
			one := string([]byte{c})
			checkUnquote(t, `"`+one+`"`, 0, one, 3, api.OK)
			checkUnquote(t, `"`+one, 0, "", 0, api.ErrEnd)
		}
	}
}

var (
	oneItem  = regexp.MustCompile(`^(?s:\\[\\"abtnvfr]|\\[0-3][0-7][0-7]|[^\\"])`)
	cutShort = regexp.MustCompile(`^(?:\\[0-7]{0,2})?$`)
)

// slowUnquote tells what Unquote should, by the forms of what may stand in a quote.
func slowUnquote(s string, at int) (string, int, api.Errno) {
	if s[at:] == "" || s[at] != '"' {
		return "", 0, api.ErrForm
	}
	text := ""
	rest := s[at+1:]
	for item := oneItem.FindString(rest); item != ""; item = oneItem.FindString(rest) {
		rest = rest[len(item):]
		if item[0] == '\\' {
			r, _, _, _ := strconv.UnquoteChar(item, '"')
			item = string([]byte{byte(r)})
		}
		text += item
	}
	switch {
	case strings.HasPrefix(rest, `"`):
		return text, len(s) - len(rest) + 1, api.OK
	case cutShort.MatchString(rest):
		return "", 0, api.ErrEnd
	}
	return "", 0, api.ErrEscape
}

// P4.2: every short text, from each of its places on.
func TestUnquoteEveryShortText(t *testing.T) {
	for _, s := range append(shortTexts(`"\0a`, 7), shortTexts("\"\\n37840\n\xff", 4)...) {
		for at := 0; at <= len(s); at++ {
			want, next, e := slowUnquote(s, at)
			checkUnquote(t, s, at, want, next, e)
		}
	}
	for _, s := range shortTexts(`"\13478n`, 5) {
		s = `"` + s
		want, next, e := slowUnquote(s, 0)
		checkUnquote(t, s, 0, want, next, e)
	}
}

// checkBack quotes and unquotes a text, between other things.
func checkBack(t *testing.T, b []byte) {
	t.Helper()
	q := show.Quote(b)
	for _, c := range []byte(q) {
		if c < 32 || c > 126 {
			t.Fatalf("Quote(%.40q) has the byte %d", b, c)
		}
	}
	for _, ahead := range []string{"", "x ", `"`, `\`, "\"\\\xff"} {
		for _, behind := range []string{"", `"`, `\`, "0", "n", ` "b"`, "\x00\n\xff"} {
			checkUnquote(t, ahead+q+behind, len(ahead), string(b), len(ahead)+len(q), api.OK)
		}
	}
	// Nothing shorter than the quote is one.
	for n := 1; n < min(len(q), 50); n++ {
		checkUnquote(t, q[:n], 0, "", 0, api.ErrEnd)
	}
}

// P4.3: what was quoted is unquoted to what it was, whatever stands behind it, and a quote has bytes from 32 to 126 alone.
func TestThereAndBack(t *testing.T) {
	for _, b := range someTexts() {
		checkBack(t, b)
	}
	for _, s := range shortTexts("\"\\0n\n\xff", 4) {
		checkBack(t, []byte(s))
	}
	for _, c := range everyByte() {
		checkBack(t, []byte{c})
	}
	checkBack(t, bytes.Repeat(everyByte(), api.MaxText/256))
}

// P4.3: every pair of bytes, too: no mark takes what stands behind it.
func TestPairsThereAndBack(t *testing.T) {
	for i := range 65536 {
		b := []byte{byte(i >> 8), byte(i)}
		q := show.Quote(b)
		if got, next, e := show.Unquote(q, 0); !bytes.Equal(got, b) || next != len(q) || e != api.OK {
			t.Fatalf("Unquote(Quote(%q)) = %q, %d, %d", b, got, next, e)
		}
	}
}

// R4: what is handed in isn't changed, and what lies behind its length is neither read nor written.
func TestArgumentsStay(t *testing.T) {
	mem := []byte("ab\n\"\\\xffSLACK")
	for n := range 7 {
		b := mem[:n]
		if got, want := string(show.List(b, 4)), string(show.List(bytes.Clone(b), 4)); got != want {
			t.Errorf("List(%q) = %q; want %q", b, got, want)
		}
		if got, want := show.Quote(b), quoteOf(b); got != want {
			t.Errorf("Quote(%q) = %q; want %q", b, got, want)
		}
	}
	if string(mem) != "ab\n\"\\\xffSLACK" {
		t.Errorf("the argument's memory was changed to %q", mem)
	}
	words := []string{"a", "b", "c", "d"}
	if got := show.Row(words[:2]...); got != "a b" {
		t.Errorf("Row of two words of four = %q", got)
	}
	if !slices.Equal(words, []string{"a", "b", "c", "d"}) {
		t.Errorf("Row changed its words to %q", words)
	}
}

// R4: what is answered isn't kept: it may be written over, with all that its memory has room for.
func TestAnswersAreNew(t *testing.T) {
	b := []byte("ab\ncd")
	for range 3 {
		for _, fold := range []int{0, 4} {
			want := marksOf(b) + "$"
			if fold == 4 {
				want = "ab\\\n\\nc\\\nd$"
			}
			l := show.List(b, fold)
			if string(l) != want {
				t.Fatalf("List(%q, %d) = %q; want %q", b, fold, l, want)
			}
			clear(l[:cap(l)])
			if string(b) != "ab\ncd" {
				t.Fatalf("the argument shares memory with its list: %q", b)
			}
		}
		one, _, _ := show.Unquote(`"ab\n"`, 0)
		two, _, _ := show.Unquote(`"ab\n"`, 0)
		clear(one[:cap(one)])
		if string(two) != "ab\n" {
			t.Fatalf("two answers share memory: %q", two)
		}
	}
	empty := show.List(nil, 0)
	clear(empty[:cap(empty)])
	checkAgain(t)
}

// checkAgain checks that an empty text is seen as ever.
func checkAgain(t *testing.T) {
	t.Helper()
	if l, q := string(show.List(nil, 0)), show.Quote(nil); l != "$" || q != `""` {
		t.Errorf("of no bytes: the list %q, the quote %q", l, q)
	}
}

// R4: texts that were handed in may be written over later on: quotes and rows don't change by it.
func TestNothingIsKept(t *testing.T) {
	b := []byte("ab")
	words := []string{"a", "b"}
	q, l, r := show.Quote(b), show.List(b, 0), show.Row(words...)
	b[0], words[0] = 'x', "x"
	if q != `"ab"` || string(l) != "ab$" || r != "a b" {
		t.Errorf("changed with what was handed in: %q, %q, %q", q, l, r)
	}
}
