package scan_test

import (
	"math"
	"strconv"
	"strings"
	"testing"

	"palinode/api"
	"palinode/scan"
)

const (
	upper  = "ABCDEFGHIJKLMNOPQRSTUVWXYZ"
	lower  = "abcdefghijklmnopqrstuvwxyz"
	digits = "0123456789"
	labels = upper + lower + digits + "_"
	delims = "!\"#%',-/:;<=>@_`|~"
)

// numbers are a row of numbers that is the same each time, and seems to have no order.
type numbers uint64

// Intn tells the next number, from 0 to n - 1.
func (x *numbers) Intn(n int) int {
	*x = *x*6364136223846793005 + 1442695040888963407
	return int(*x>>33) % n
}

// textOf tells at most that many bytes, each of them one of those of of.
func (x *numbers) textOf(of string, most int) string {
	var b strings.Builder
	for range x.Intn(most + 1) {
		b.WriteByte(of[x.Intn(len(of))])
	}
	return b.String()
}

// has tells whether c is one of these bytes.
func has(of string, c byte) bool { return strings.IndexByte(of, c) >= 0 }

// allBytes holds each byte once.
func allBytes() string {
	var b strings.Builder
	for c := range 256 {
		b.WriteByte(byte(c))
	}
	return b.String()
}

// shortTexts are all texts of at most that many bytes, each of them one of those of of.
func shortTexts(of string, most int) []string {
	all := []string{""}
	for from := 0; most > 0; most-- {
		end := len(all)
		for _, s := range all[from:end] {
			for _, c := range []byte(of) {
				all = append(all, s+string([]byte{c}))
			}
		}
		from = end
	}
	return all
}

// takenAlong tells of each place whether a \ takes along what stands there, and of the place behind all, whether a \ ends s.
func takenAlong(s string) []bool {
	along := make([]bool, len(s)+1)
	for at := range len(s) {
		along[at+1] = s[at] == '\\' && !along[at]
	}
	return along
}

// model is a cursor that is told by the chapter's words: all its bytes, and its place. Each call tells a row of words.
type model struct {
	text string
	at   int
}

func (m *model) left() string { return m.text[m.at:] }

func (m *model) peek() string {
	if m.at == len(m.text) {
		return aByte(0, false)
	}
	return aByte(m.text[m.at], true)
}

func (m *model) next() string {
	row := m.peek()
	if m.at < len(m.text) {
		m.at++
	}
	return row
}

// pass tells the bytes ahead of the first one that isn't one of of.
func (m *model) pass(of string) string {
	passed := ""
	for m.at < len(m.text) && has(of, m.text[m.at]) {
		passed += m.text[m.at : m.at+1]
		m.at++
	}
	return passed
}

func (m *model) skip(of string) string { return strconv.Itoa(len(m.pass(of))) }

func (m *model) word() string { return strconv.Quote(m.pass(labels)) }

// num holds numbers against each other by their digits, as texts: of those of one length, the greater one comes later.
func (m *model) num(most int) string {
	was := m.at
	row := m.pass(digits)
	if row == "" {
		return aNumber(0, api.ErrForm)
	}
	row = strings.TrimLeft(row, "0")
	limit := strconv.Itoa(most)
	if limit == "0" {
		limit = ""
	}
	if most < 0 || len(row) > len(limit) || len(row) == len(limit) && row > limit {
		m.at = was
		return aNumber(0, api.ErrRange)
	}
	n := 0
	for _, c := range []byte(row) {
		n = 10*n + strings.IndexByte(digits, c)
	}
	return aNumber(n, api.OK)
}

func (m *model) until(delim byte) string {
	left := m.left()
	along := takenAlong(left)
	for i := range len(left) {
		if along[i] || left[i] != '\n' && left[i] != delim {
			continue
		}
		if left[i] == '\n' || !has(delims, delim) {
			break
		}
		m.at += i + 1
		return aText(left[:i], api.OK)
	}
	return aText("", api.ErrDelim)
}

func (m *model) rest() string {
	line, behind, _ := strings.Cut(m.left(), "\n")
	m.at = len(m.text) - len(behind)
	return strconv.Quote(line)
}

func (m *model) wholeText() string {
	left := m.left()
	along := takenAlong(left)
	text := ""
	for i := range len(left) {
		escapes := along[i+1]
		switch {
		case escapes && i+1 == len(left):
			return aText("", api.ErrEscape)
		case escapes:
		case left[i] == '\n' && !along[i]:
			m.at += i + 1
			return aText(text+"\n", api.OK)
		default:
			text += left[i : i+1]
		}
	}
	m.at = len(m.text)
	return aText(text+"\n", api.OK)
}

// aByte, aNumber and aText tell what a call answers as a row of words.
func aByte(c byte, ok bool) string { return strconv.Itoa(int(c)) + " " + strconv.FormatBool(ok) }

func aNumber(n int, e api.Errno) string { return strconv.Itoa(n) + " " + strconv.Itoa(int(e)) }

func aText(s string, e api.Errno) string { return strconv.Quote(s) + " " + strconv.Itoa(int(e)) }

// call is a call of a cursor, and what the model tells of it.
type call struct {
	name string
	does func(c *scan.Cursor) string
	says func(m *model) string
}

func at() call {
	return call{"At()", func(c *scan.Cursor) string { return strconv.Itoa(c.At()) }, func(m *model) string { return strconv.Itoa(m.at) }}
}

func peek() call {
	return call{"Peek()", func(c *scan.Cursor) string { return aByte(c.Peek()) }, (*model).peek}
}

func next() call {
	return call{"Next()", func(c *scan.Cursor) string { return aByte(c.Next()) }, (*model).next}
}

func skip(of string) call {
	return call{
		"Skip of " + strconv.Quote(of),
		func(c *scan.Cursor) string { return strconv.Itoa(c.Skip([]byte(of)...)) },
		func(m *model) string { return m.skip(of) },
	}
}

func word() call {
	return call{"Word()", func(c *scan.Cursor) string { return strconv.Quote(c.Word()) }, (*model).word}
}

func num(most int) call {
	return call{
		"Num(" + strconv.Itoa(most) + ")",
		func(c *scan.Cursor) string { return aNumber(c.Num(most)) },
		func(m *model) string { return m.num(most) },
	}
}

func until(delim byte) call {
	return call{
		"Until(" + strconv.QuoteRune(rune(delim)) + ")",
		func(c *scan.Cursor) string { b, e := c.Until(delim); return aText(string(b), e) },
		func(m *model) string { return m.until(delim) },
	}
}

func rest() call {
	return call{"Rest()", func(c *scan.Cursor) string { return strconv.Quote(string(c.Rest())) }, (*model).rest}
}

func text() call {
	return call{"Text()", func(c *scan.Cursor) string { b, e := c.Text(); return aText(string(b), e) }, (*model).wholeText}
}

// someCalls are calls of each kind.
func someCalls() []call {
	return []call{
		at(), peek(), next(), skip(""), skip(" "), skip("/\\"), skip("\n\\a;"), word(),
		num(0), num(1), num(10), num(-1), num(math.MaxInt), num(math.MinInt),
		until('/'), until(';'), until('\n'), until('\\'), until('a'), until('.'), rest(), text(),
	}
}

// agree does a call, and holds the answer and the place behind it against the model.
func agree(t *testing.T, c *scan.Cursor, m *model, x call) {
	t.Helper()
	was := m.at
	want := x.says(m)
	if got := x.does(c); got != want || c.At() != m.at {
		t.Fatalf("%s at %d of %.99q: %.300s, and the place %d; want %.300s, and %d", x.name, was, m.text, got, c.At(), want, m.at)
	}
}

// standing opens a cursor over s, and goes to that place.
func standing(t *testing.T, s string, place int) (*scan.Cursor, *model) {
	t.Helper()
	c, m := scan.Open([]byte(s)), &model{text: s}
	for range place {
		agree(t, c, m, next())
	}
	return c, m
}

// answers asks a call at a place of s for an answer that is written by hand, and for the place behind it.
func answers(t *testing.T, s string, place int, x call, want string, behind int) {
	t.Helper()
	c, m := standing(t, s, place)
	if got := x.does(c); got != want || c.At() != behind {
		t.Errorf("%s at %d of %.99q: %.300s, and the place %d; want %.300s, and %d", x.name, place, s, got, c.At(), want, behind)
	}
	if says := x.says(m); says != want || m.at != behind {
		t.Errorf("the model of %s at %d of %.99q: %.300s, and the place %d; want %.300s, and %d", x.name, place, s, says, m.at, want, behind)
	}
}
