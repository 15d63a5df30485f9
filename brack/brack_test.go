package brack_test

import (
	"bytes"
	"math"
	"slices"
	"strings"
	"testing"

	"palinode/api"
	"palinode/brack"
	"palinode/class"
)

// names are those of all classes of chapter 1.
var names = []string{"upper", "lower", "digit", "alpha", "alnum", "blank", "space", "cntrl", "graph", "print", "punct", "xdigit"}

// tails are what may stand behind a bracket expression: the place behind its ] hangs on none of it.
var tails = []string{"", "]", "]]", "-z]", "*", "a-b]", ":]", ".]", "=]", "^", "[", "[:digit:]]", "\\n", "\n", "\x00\xff"}

// told is what Parse answers.
type told struct {
	s    api.Set
	next int
	e    api.Errno
}

func parse(b string, at int) told {
	s, next, e := brack.Parse([]byte(b), at)
	return told{s, next, e}
}

func wrong(e api.Errno) told { return told{e: e} }

func setOf(s string) api.Set { return class.Of([]byte(s)...) }

func named(t *testing.T, name string) api.Set {
	t.Helper()
	s, ok := class.Named(name)
	if !ok {
		t.Fatalf("%s is no class", name)
	}
	return s
}

// means asks that s, which stands behind a [ , is a bracket expression up to its last byte whose set is want: by itself, behind other bytes, and with anything behind it.
func means(t *testing.T, s string, want api.Set) {
	t.Helper()
	for _, ahead := range []string{"", "[", "x[", "]^[", "[:[", strings.Repeat("-", 300)} {
		for _, tail := range tails {
			b := ahead + s + tail
			if got := parse(b, len(ahead)); got != (told{want, len(ahead) + len(s), api.OK}) {
				t.Errorf("%q at %d: %q, %d, %v, want %q, %d", b, len(ahead), class.Bytes(got.s), got.next, got.e, class.Bytes(want), len(ahead)+len(s))
				return
			}
		}
	}
}

// meansBoth asks the same of s, and of s behind a ^ with all other bytes.
func meansBoth(t *testing.T, s string, want api.Set) {
	t.Helper()
	means(t, s, want)
	means(t, "^"+s, class.Not(want))
}

// fails asks that s, which stands behind a [ , is wrong by e, behind a ^ too, and behind other bytes.
func fails(t *testing.T, s string, e api.Errno) {
	t.Helper()
	for _, ahead := range []string{"", "[", "x[", "[a-"} {
		for _, not := range []string{"", "^"} {
			b := ahead + not + s
			if got := parse(b, len(ahead)); got != wrong(e) {
				t.Errorf("%q at %d: %q, %d, %v, want %v", b, len(ahead), class.Bytes(got.s), got.next, got.e, e)
			}
		}
	}
}

// A piece is what a text is made of by the chapter's words: a class, an end, or one that can't be read.
type piece struct {
	raw   byte // the byte, if the piece is one that stands for itself alone; else 0
	class bool
	s     api.Set
	c     byte
	next  int
	e     api.Errno
}

// pieces cuts b into pieces from the place at on, whatever items they make, up to the first that can't be read, or the end.
func pieces(b string, at int) []piece {
	var l []piece
	for {
		p := pieceAt(b, at)
		l = append(l, p)
		if p.e != api.OK {
			return l
		}
		at = p.next
	}
}

func pieceAt(b string, at int) piece {
	if at == len(b) {
		return piece{e: api.ErrBracket}
	}
	two := b[at:min(at+2, len(b))]
	switch two {
	case "[:", "[.", "[=":
		name, _, ok := strings.Cut(b[at+2:], two[1:]+"]")
		if !ok {
			return piece{e: api.ErrBracket}
		}
		next := at + len(name) + 4
		if two != "[:" {
			if len(name) != 1 {
				return piece{e: api.ErrClass}
			}
			return piece{c: name[0], next: next}
		}
		s, ok := class.Named(name)
		if !ok {
			return piece{e: api.ErrClass}
		}
		return piece{class: true, s: s, next: next}
	case "\\n":
		return piece{c: '\n', next: at + 2}
	}
	return piece{raw: b[at], c: b[at], next: at + 1}
}

// model tells what Parse must answer: it puts items together from pieces that were all cut before.
func model(b string, at int) told {
	if at < 0 || at > len(b) {
		return wrong(api.ErrArg)
	}
	not := strings.HasPrefix(b[at:], "^")
	if not {
		at++
	}
	l := pieces(b, at)
	is := func(i int, c byte) bool { return i < len(l) && l[i].raw == c }
	var all [256]bool
	put := func(from, to byte) {
		for c := int(from); c <= int(to); c++ {
			all[c] = true
		}
	}
	for i := 0; ; {
		if i > 0 && is(i, ']') {
			return told{setOfAll(all, not), l[i].next, api.OK}
		}
		p := l[i]
		joined := is(i+1, '-') && !is(i+2, ']')
		switch {
		case p.e != api.OK:
			return wrong(p.e)
		case p.class && joined:
			return wrong(api.ErrRange)
		case p.class:
			for _, c := range class.Bytes(p.s) {
				put(c, c)
			}
			i++
		case !joined:
			put(p.c, p.c)
			i++
		case l[i+2].e != api.OK:
			return wrong(l[i+2].e)
		case l[i+2].class || l[i+2].c < p.c:
			return wrong(api.ErrRange)
		default:
			put(p.c, l[i+2].c)
			i += 3
		}
	}
}

func setOfAll(all [256]bool, not bool) api.Set {
	var s api.Set
	for c, in := range all {
		if in != not {
			s[c/64] |= 1 << (c % 64)
		}
	}
	return s
}

// likeModel asks Parse of b at all places, inside and outside, for what the model tells.
func likeModel(t *testing.T, b string) {
	t.Helper()
	for at := -1; at <= len(b)+1; at++ {
		if got, want := parse(b, at), model(b, at); got != want {
			t.Fatalf("%q at %d: %q, %d, %v, want %q, %d, %v", b, at, class.Bytes(got.s), got.next, got.e, class.Bytes(want.s), want.next, want.e)
		}
	}
}

// eachText hands over all texts of up to most of these words.
func eachText(words []string, most int, do func(string)) {
	var grow func(string, int)
	grow = func(b string, left int) {
		do(b)
		if left == 0 {
			return
		}
		for _, w := range words {
			grow(b+w, left-1)
		}
	}
	grow("", most)
}

// P7.1: a place below 0, or above how many bytes there are, is ErrArg; the place behind all bytes is none of these.
func TestPlaceOutside(t *testing.T) {
	for _, b := range []string{"", "a]", "^", "[:", strings.Repeat("a", 1000) + "]"} {
		for _, at := range []int{-1, -2, -1 << 32, math.MinInt, math.MinInt + 1, len(b) + 1, len(b) + 2, 1 << 32, math.MaxInt - 1, math.MaxInt} {
			if got := parse(b, at); got != wrong(api.ErrArg) {
				t.Errorf("%.9q at %d: %v", b, at, got)
			}
		}
		if got := parse(b, len(b)); got != wrong(api.ErrBracket) {
			t.Errorf("%.9q at its end: %v", b, got)
		}
	}
	if s, next, e := brack.Parse(nil, 0); s != (api.Set{}) || next != 0 || e != api.ErrBracket {
		t.Error(s, next, e)
	}
	if s, next, e := brack.Parse(nil, 1); s != (api.Set{}) || next != 0 || e != api.ErrArg {
		t.Error(s, next, e)
	}
}

// P7.1: bytes that mean themselves, one or more, twice or in any order.
func TestBytes(t *testing.T) {
	for _, s := range []string{"a", "ab", "ba", "aaa", "a.b", "*", ".", "$", "\x00", "\xff", "\n", "\n\x00\xff", "a b", "{}()", "\"/", ":", "=", ".", ":.=", "é", "ab\xc3"} {
		meansBoth(t, s+"]", setOf(s))
	}
	for c := range 256 {
		if c == ']' || c == '^' {
			continue
		}
		meansBoth(t, string([]byte{byte(c), ']'}), class.Of(byte(c)))
		means(t, string([]byte{'x', byte(c), ']'}), class.Of('x', byte(c)))
	}
}

// P7.1: all bytes at once, one way and the other.
func TestAllBytes(t *testing.T) {
	meansBoth(t, "\x00-\xff]", class.Not(class.Of()))
	means(t, "^\x00-\xff]", class.Of())
	means(t, "^\x01-\xff]", class.Of(0))
	means(t, "^\x00-\xfe]", class.Of(255))
}

// P7.1: the first item may be a ] , behind a ^ too; any other ] closes.
func TestClosing(t *testing.T) {
	meansBoth(t, "]]", setOf("]"))
	meansBoth(t, "]a]", setOf("]a"))
	meansBoth(t, "]^]", setOf("]^"))
	meansBoth(t, "]-]", setOf("]-"))
	meansBoth(t, "]-a]", setOf("]^_`a"))
	meansBoth(t, "]-[.].]]", setOf("]"))
	meansBoth(t, "].]", setOf("]."))
	meansBoth(t, "]:]", setOf("]:"))
	meansBoth(t, "][]", setOf("]["))
	means(t, "a]", setOf("a"))
	fails(t, "", api.ErrBracket)
	fails(t, "]", api.ErrBracket)
	fails(t, "]a", api.ErrBracket)
	fails(t, "]-", api.ErrBracket)
	fails(t, "]-a", api.ErrBracket)
	fails(t, "]-[]", api.ErrRange)
	fails(t, "a", api.ErrBracket)
	fails(t, "a-z", api.ErrBracket)
	fails(t, "[.].]", api.ErrBracket)
	fails(t, "[:digit:]", api.ErrBracket)
}

// P7.1: only the first ^ says that all other bytes are meant.
func TestCaret(t *testing.T) {
	means(t, "a^]", setOf("a^"))
	means(t, "^^]", class.Not(setOf("^")))
	means(t, "^^^]", class.Not(setOf("^")))
	means(t, "^a^]", class.Not(setOf("a^")))
	means(t, "^^-a]", class.Not(setOf("^_`a")))
	means(t, "^-a]", class.Not(setOf("-a")))
	means(t, "^-]", class.Not(setOf("-")))
	means(t, "[.^.]]", setOf("^"))
	means(t, "[=^=]a]", setOf("^a"))
	means(t, "[.^.]-a]", setOf("^_`a"))
	means(t, "\\^]", setOf("\\^"))
	means(t, "]-^]", setOf("]^"))
	fails(t, "^", api.ErrBracket)
	if got := parse("^", 1); got != wrong(api.ErrBracket) {
		t.Error(got)
	}
}

// P7.1: each class by its name, by itself and beside others.
func TestClasses(t *testing.T) {
	for _, name := range names {
		s := named(t, name)
		meansBoth(t, "[:"+name+":]]", s)
		meansBoth(t, "[:"+name+":][:"+name+":]]", s)
		meansBoth(t, "_[:"+name+":]\\]", class.Union(s, setOf("_\\")))
		meansBoth(t, "][:"+name+":]]", class.Union(s, setOf("]")))
		for _, other := range names {
			means(t, "[:"+name+":][:"+other+":]]", class.Union(s, named(t, other)))
		}
	}
	means(t, "[:digit:]x]", setOf("0123456789x"))
	means(t, "[:digit:]:]", setOf("0123456789:"))
	means(t, "[[:digit:]]", setOf("0123456789["))
}

// P7.1: a name of no class is ErrClass, whichever bytes it has; what has no :] is ErrBracket.
func TestNoClasses(t *testing.T) {
	for _, name := range []string{"", "nope", "Digit", "DIGIT", "digi", "digits", " digit", "digit ", "digit\n", "digit\x00", ":digit", "digit:", "]", "a]b", "[", "[:digit", "-", "^", "^digit", "\\n", "\n", "\x00", "\xff", ".", "=", strings.Repeat("digit", 9000)} {
		fails(t, "[:"+name+":]]", api.ErrClass)
		fails(t, "[:"+name+":]", api.ErrClass)
		fails(t, "ab[:"+name+":]-z]", api.ErrClass)
	}
	for _, b := range []string{"[:", "[:]", "[:]]", "[:d", "[:digit", "[:digit:", "[:digit]", "[:digit]]", "[:digit: ]]", "[:digit.]]", "[:digit=]]", "[:nope", "[:-]]", "[::", "[:" + strings.Repeat("]", 9000)} {
		fails(t, b, api.ErrBracket)
		fails(t, "xyz"+b, api.ErrBracket)
	}
}

// P7.1: [. .] and [= =] of one byte are that byte, whichever it is, alone and as either end of a range.
func TestOneByte(t *testing.T) {
	for _, sign := range []string{".", "="} {
		for c := range 256 {
			end := "[" + sign + string([]byte{byte(c)}) + sign + "]"
			meansBoth(t, end+"]", class.Of(byte(c)))
			means(t, "z"+end+end+"]", class.Of('z', byte(c)))
			means(t, end+"-]", class.Of('-', byte(c)))
			means(t, "\x00-"+end+"]", class.Range(0, byte(c)))
			means(t, end+"-\xff]", class.Range(byte(c), 255))
			means(t, end+"-"+end+"]", class.Of(byte(c)))
		}
	}
	means(t, "[.-.]]", setOf("-"))
	means(t, "[.].]]", setOf("]"))
	means(t, "[...]]", setOf("."))
	means(t, "[===]]", setOf("="))
	means(t, "[.=.]]", setOf("="))
	means(t, "[=.=]]", setOf("."))
	means(t, "[=a=]-c]", setOf("abc"))
	means(t, "[.a.]-[=c=]]", setOf("abc"))
	means(t, "a[.-.]c]", setOf("a-c"))
	means(t, "+-[.-.]]", setOf("+,-"))
	means(t, "[.-.]-/]", setOf("-./"))
}

// P7.1: [. .] and [= =] of no byte, or of more than one, are ErrClass; without their end, ErrBracket.
func TestNotOneByte(t *testing.T) {
	for _, sign := range []string{".", "="} {
		for _, name := range []string{"", "ab", "\\n", "]]", "--", "a]", "]a", "space", "hyphen", "\x00\x00", "é", "[:", "[", strings.Repeat("a", 9000)} {
			end := "[" + sign + name + sign + "]"
			if len(name) == 1 {
				means(t, end+"]", setOf(name))
				continue
			}
			fails(t, end+"]", api.ErrClass)
			fails(t, end, api.ErrClass)
			fails(t, end+"-a]", api.ErrClass)
			fails(t, "a"+end+"]", api.ErrClass)
			fails(t, "a-"+end+"]", api.ErrClass)
		}
		for _, b := range []string{"", "]", "]]", "a", "a]", "a]]", "a" + sign, "a" + sign + "a]", "a:]]", "a-z]", strings.Repeat("]", 9000)} {
			fails(t, "["+sign+b, api.ErrBracket)
			fails(t, "a["+sign+b, api.ErrBracket)
			fails(t, "a-["+sign+b, api.ErrBracket)
		}
	}
	fails(t, "[.a=]]", api.ErrBracket)
	fails(t, "[=a.]]", api.ErrBracket)
	fails(t, "[.a=].]]", api.ErrClass)
}

// P7.1: a \n is the newline; a \ ahead of any other byte, or of the ] , is itself.
func TestBackslash(t *testing.T) {
	meansBoth(t, "\\n]", setOf("\n"))
	meansBoth(t, "a\\nb]", setOf("\nab"))
	meansBoth(t, "\\\\n]", setOf("\\\n"))
	meansBoth(t, "\\n\\n]", setOf("\n"))
	meansBoth(t, "\\nn]", setOf("\nn"))
	meansBoth(t, "\\]", setOf("\\"))
	meansBoth(t, "a\\]", setOf("a\\"))
	meansBoth(t, "\\-a]", setOf("\\]^_`a"))
	meansBoth(t, "Z-\\]", setOf("Z[\\"))
	meansBoth(t, "\t-\\n]", setOf("\t\n"))
	meansBoth(t, "\\n-\r]", setOf("\n\v\f\r"))
	meansBoth(t, "\\n-\\n]", setOf("\n"))
	meansBoth(t, "\\n-]", setOf("\n-"))
	meansBoth(t, "\\-]", setOf("\\-"))
	fails(t, "\\--]", api.ErrRange)
	fails(t, "a-\\n]", api.ErrRange)
	fails(t, "\v-\\n]", api.ErrRange)
	fails(t, "\\n-\t]", api.ErrRange)
}

// P7.1: the \ ahead of each byte but n, - and ] is itself, and that byte too.
func TestBackslashAhead(t *testing.T) {
	for c := range 256 {
		switch c {
		case 'n', '-', ']', '[':
			continue
		}
		meansBoth(t, string([]byte{'\\', byte(c), ']'}), class.Of('\\', byte(c)))
	}
	meansBoth(t, "\\[]", setOf("\\["))
	meansBoth(t, "\\[.a.]]", setOf("\\a"))
	fails(t, "\\", api.ErrBracket)
	fails(t, "\\n", api.ErrBracket)
	fails(t, "a\\", api.ErrBracket)
	fails(t, "]\\", api.ErrBracket)
}

// P7.1: a - is itself as the first item, as the last one, behind a ^ , behind a range, and as either end of one.
func TestHyphen(t *testing.T) {
	for s, want := range map[string]string{
		"-]":             "-",
		"-a]":            "-a",
		"a-]":            "-a",
		"ab-]":           "-ab",
		"--]":            "-",
		"---]":           "-",
		"----]":          "-",
		"-----]":         "-",
		"---/]":          "-/",
		"--/]":           "-./",
		"--/-]":          "-./",
		"+--]":           "+,-",
		"+---]":          "+,-",
		"+--a]":          "+,-a",
		"a-c-]":          "abc-",
		"a-c-e]":         "abc-e",
		"a-c-e-g]":       "abc-efg",
		"a-c--/]":        "abc-./",
		"-a-c]":          "-abc",
		"-a-]":           "-a",
		"[:digit:]-]":    "0123456789-",
		"-[:digit:]]":    "0123456789-",
		"-[:digit:]-]":   "0123456789-",
		"---[:digit:]]":  "0123456789-",
		"[.-.]]":         "-",
		"[.-.]-]":        "-",
		"[.-.]--]":       "-",
		"-[=-=]]":        "-",
		"--[.-.]]":       "-",
		"]-]":            "]-",
		"a-c-[.e.]]":     "abc-e",
		"a-c-\\n]":       "abc-\n",
		"a-c[:digit:]]":  "abc0123456789",
		"[:digit:]a-c-]": "abc0123456789-",
	} {
		meansBoth(t, s, setOf(want))
	}
	fails(t, "-", api.ErrBracket)
	fails(t, "--", api.ErrBracket)
	fails(t, "---", api.ErrBracket)
	fails(t, "a-", api.ErrBracket)
	fails(t, "a-c-", api.ErrBracket)
	fails(t, "a--]", api.ErrRange)
	fails(t, "--+]", api.ErrRange)
}

// P7.1: a range has the bytes from its first end to its second, if that isn't less, for all ends.
func TestRanges(t *testing.T) {
	ends := func(c int) []string {
		one := string([]byte{byte(c)})
		l := []string{"[." + one + ".]", "[=" + one + "=]"}
		if c != ']' && c != '^' {
			l = append(l, one)
		}
		if c == '\n' {
			l = append(l, "\\n")
		}
		return l
	}
	for a := range 256 {
		for b := range 256 {
			first, last := ends(a), ends(b)
			f, l := first[(a+b)%len(first)], last[(a*b+a)%len(last)]
			for _, s := range []string{f + "-" + l + "]", first[0] + "-" + last[len(last)-1] + "]", first[len(first)-1] + "-" + last[0] + "]"} {
				want := wrong(api.ErrRange)
				if a <= b {
					want = told{class.Range(byte(a), byte(b)), len(s), api.OK}
				}
				if got := parse(s, 0); got != want {
					t.Fatalf("%q: %v, want %v", s, got, want)
				}
			}
		}
	}
	meansBoth(t, "a-a]", setOf("a"))
	meansBoth(t, "a-b]", setOf("ab"))
	meansBoth(t, "a-cx-z]", setOf("abcxyz"))
	meansBoth(t, "a-cb-d]", setOf("abcd"))
	meansBoth(t, "+-[]", class.Range('+', '['))
	meansBoth(t, "[-a]", class.Range('[', 'a'))
	fails(t, "b-a]", api.ErrRange)
	fails(t, "xb-ay]", api.ErrRange)
	fails(t, "\xff-\x00]", api.ErrRange)
	fails(t, "[=a=]-[=A=]]", api.ErrRange)
}

// P7.1: a class is no end: ahead of a - only a ] may stand behind that, and behind one it mustn't stand, if that stands behind an end.
func TestClassesAsEnds(t *testing.T) {
	for _, name := range names {
		c := "[:" + name + ":]"
		for _, b := range []string{c + "-", c + "-z]", c + "--]", c + "-" + c + "]", c + "-[.z.]]", c + "-[:nope:]]", c + "-[:nope", c + "-[", c + "-[..]]", c + "-\\n]", c + "-^]", "a" + c + "-z", "a-c" + c + "-z]", c + c + "-z]"} {
			fails(t, b, api.ErrRange)
		}
		for _, b := range []string{"a-" + c + "]", "a-" + c, "a-" + c + "-", "a-" + c + "-z]", "a-" + c + "-]", "--" + c + "]", "]-" + c + "]", "[.a.]-" + c + "]", "\\n-" + c + "]", "\x00-" + c + "]", "xa-" + c + "]", c + "a-" + c + "]"} {
			fails(t, b, api.ErrRange)
		}
		meansBoth(t, c+"-]", class.Union(named(t, name), setOf("-")))
		meansBoth(t, "-"+c+"]", class.Union(named(t, name), setOf("-")))
		meansBoth(t, "a-c-"+c+"]", class.Union(named(t, name), setOf("abc-")))
	}
}

// P7.1: what is wrong in more than one way is told by the first as it is read.
func TestFirstWrong(t *testing.T) {
	for s, e := range map[string]api.Errno{
		"b-a":                   api.ErrRange,
		"b-a[:nope:]]":          api.ErrRange,
		"b-a[:":                 api.ErrRange,
		"b-a[..]":               api.ErrRange,
		"[:nope:]b-a]":          api.ErrClass,
		"[:nope:]":              api.ErrClass,
		"[:nope:][:":            api.ErrClass,
		"[:nope:]-":             api.ErrClass,
		"[:nope:]-z]":           api.ErrClass,
		"[:nope:]-[:alpha:]]":   api.ErrClass,
		"[:nope[:alpha:]]":      api.ErrClass,
		"[:nope b-a]":           api.ErrBracket,
		"[. b-a]":               api.ErrBracket,
		"[=[:nope:]":            api.ErrBracket,
		"[:[..]":                api.ErrBracket,
		"[..]b-a]":              api.ErrClass,
		"[..]":                  api.ErrClass,
		"[..]-":                 api.ErrClass,
		"[..]-[:alpha:]]":       api.ErrClass,
		"[.b.]-[.a.]":           api.ErrRange,
		"[.b.]-[..]":            api.ErrClass,
		"[.b.]-[.aa.]]":         api.ErrClass,
		"[.b.]-[.a]":            api.ErrBracket,
		"b-[:nope:]]":           api.ErrClass,
		"b-[:nope:]":            api.ErrClass,
		"b-[:nope:]-a]":         api.ErrClass,
		"b-[:alpha":             api.ErrBracket,
		"b-[:]":                 api.ErrBracket,
		"b-[:alpha:]":           api.ErrRange,
		"b-[:alpha:]-[:nope:]]": api.ErrRange,
		"[:alpha:]-[:nope:]]":   api.ErrRange,
		"[:alpha:]-[:":          api.ErrRange,
		"[:alpha:]-[..]":        api.ErrRange,
		"[:alpha:]-b-a]":        api.ErrRange,
		"[:alpha:]-":            api.ErrRange,
		"[:alpha:][:":           api.ErrBracket,
		"[:alpha:][:nope:]":     api.ErrClass,
		"b-[":                   api.ErrRange,
		"+-[":                   api.ErrBracket,
		"b-\\":                  api.ErrRange,
		"+-\\":                  api.ErrBracket,
		"b-":                    api.ErrBracket,
		"a-b-":                  api.ErrBracket,
	} {
		fails(t, s, e)
	}
	if got := parse("b-a", -1); got != wrong(api.ErrArg) {
		t.Error(got)
	}
	if got := parse("[:nope:]", 9); got != wrong(api.ErrArg) {
		t.Error(got)
	}
}

// P7.1: all short texts, from all their places, are read as the chapter's words tell.
func TestAllShortTexts(t *testing.T) {
	eachText(strings.Split("] ^ - [ : . = \\ n a", " "), 5, func(b string) { likeModel(t, b) })
	eachText([]string{"]", "-", "[", ".", "b", "a", "\n", "\xff"}, 5, func(b string) { likeModel(t, b) })
}

// P7.1: so are all short rows of items and what they are made of.
func TestAllShortRows(t *testing.T) {
	words := []string{"]", "^", "-", "[:digit:]", "[:nope:]", "[:", "[..]", "[.b.]", "[=+=]", "\\n", "\\", "a", "c"}
	eachText(words, 4, func(b string) { likeModel(t, b) })
	eachText([]string{"]", "-", "[:digit:]", "[.b.]", "a"}, 6, func(b string) { likeModel(t, b) })
}

// P7.1: rows of items whose sets are known, one behind the other, mean what is in one of them.
func TestManyItems(t *testing.T) {
	const rows = 200
	item := []string{"]", "a", "b-d", "[:digit:]", "[.-.]", "[=]=]-_", "\\n", "\\", "[.\x80.]-\xff", "[", "^", "."}
	want := []api.Set{setOf("]"), setOf("a"), setOf("bcd"), setOf("0123456789"), setOf("-"), setOf("]^_"), setOf("\n"), setOf("\\"), class.Range(128, 255), setOf("["), setOf("^"), setOf(".")}
	for n := range rows {
		var b strings.Builder
		var parts []api.Set
		for k := range 1 + n {
			i := (n*7 + k*(1+n%5)) % len(item)
			if i == 0 && k > 0 || strings.HasSuffix(b.String(), "[") && strings.HasPrefix(item[i], ".") || k == 0 && item[i] == "^" {
				continue
			}
			b.WriteString(item[i])
			parts = append(parts, want[i])
		}
		if len(parts) == 0 {
			continue
		}
		meansBoth(t, b.String()+"]", class.Union(parts...))
	}
}

// P7.1: many items, and long ones, are read like few and short ones.
func TestLong(t *testing.T) {
	const many = 20000
	for s, want := range map[string]api.Set{
		strings.Repeat("a", many):                setOf("a"),
		strings.Repeat("a-c", many):              setOf("abc"),
		strings.Repeat("[:digit:]", many) + "-":  setOf("0123456789-"),
		strings.Repeat("[", many):                setOf("["),
		"^" + strings.Repeat("^", many):          class.Not(setOf("^")),
		strings.Repeat("a", many) + "[.].]-b\\n": setOf("]^_`ab\n"),
	} {
		if got := parse("["+s+"]-z]", 1); got != (told{want, len(s) + 2, api.OK}) {
			t.Errorf("%.9q: %q, %d, %v", s, class.Bytes(got.s), got.next, got.e)
		}
	}
	fails(t, "]"+strings.Repeat("\\n", many), api.ErrBracket)
	fails(t, strings.Repeat("a-", many), api.ErrBracket)
	fails(t, "[:"+strings.Repeat(":", many), api.ErrBracket)
	fails(t, "[:"+strings.Repeat(":", many)+"]", api.ErrClass)
	fails(t, "[."+strings.Repeat(".", many)+"]]", api.ErrClass)
}

// R4: what is handed in stays, and what lies behind its length isn't read; R6: the same again is answered the same.
func TestParseKeepsOff(t *testing.T) {
	for _, whole := range []string{"ab]", "^a-z]x]", "[:digit:]]", "[.a.]]", "\\n]", "[:alpha:]-]", "a-]]"} {
		b := []byte(whole)
		for n := range len(b) + 1 {
			want := model(whole[:n], 0)
			for range 3 {
				if s, next, e := brack.Parse(b[:n], 0); (told{s, next, e}) != want {
					t.Errorf("%q, %d bytes of it: %v, %d, %v", whole, n, s, next, e)
				}
			}
		}
		if string(b) != whole {
			t.Errorf("%q became %q", whole, b)
		}
	}
}

// tells asks that Text of s is a bracket expression from its [ on whose set is s, for Parse and for the model, whatever stands ahead of it and behind.
func tells(t *testing.T, s api.Set) {
	t.Helper()
	text := brack.Text(s)
	if len(text) < 3 || text[0] != '[' || text[len(text)-1] != ']' {
		t.Fatalf("%v: %q", s, text)
	}
	for _, tail := range tails {
		b := string(text) + tail
		want := told{s, len(text), api.OK}
		if got := parse(b, 1); got != want {
			t.Fatalf("%v: %q: %v", s, b, got)
		}
		if got := model(b, 1); got != want {
			t.Fatalf("%v: %q: by the model: %v", s, b, got)
		}
		if got := parse("x["+b, 3); got != (told{s, len(text) + 2, api.OK}) {
			t.Fatalf("%v: %q behind another: %v", s, b, got)
		}
	}
}

// P7.2: the text of the set of no byte, and of all.
func TestTextNoneAndAll(t *testing.T) {
	tells(t, api.Set{})
	tells(t, class.Not(api.Set{}))
}

// P7.2: the text of each single byte, and of all bytes but that one.
func TestTextOne(t *testing.T) {
	for c := range 256 {
		tells(t, class.Of(byte(c)))
		tells(t, class.Not(class.Of(byte(c))))
	}
}

// P7.2: the text of each pair of bytes, and of each row of neighbouring ones.
func TestTextPairsAndRows(t *testing.T) {
	for a := range 256 {
		for b := a; b < 256; b++ {
			tells(t, class.Of(byte(a), byte(b)))
			tells(t, class.Range(byte(a), byte(b)))
		}
	}
}

// P7.2: the text of the bytes that mean something in a bracket expression, in each choice of them, and of all bytes but these.
func TestTextSigns(t *testing.T) {
	signs := []byte("]^-[\\\n:.=n,")
	for choice := range 1 << len(signs) {
		var l []byte
		for i, c := range signs {
			if choice>>i&1 == 1 {
				l = append(l, c)
			}
		}
		tells(t, class.Of(l...))
		tells(t, class.Not(class.Of(l...)))
	}
}

// P7.2: the text of rows of neighbouring bytes that begin or end at, beside or about a byte that means something, and of two rows.
func TestTextRowsAtSigns(t *testing.T) {
	var l []api.Set
	for _, c := range []byte("]^-[\\\n:.=") {
		for ahead := byte(0); ahead < 4; ahead++ {
			for behind := byte(0); behind < 4; behind++ {
				l = append(l, class.Range(c-ahead, c+behind))
			}
		}
	}
	for i, a := range l {
		tells(t, class.Not(a))
		for _, b := range l[i:] {
			tells(t, class.Union(a, b))
		}
	}
}

// P7.2: the text of each class, and of sets whose bytes lie in any way.
func TestTextOthers(t *testing.T) {
	for _, name := range names {
		tells(t, named(t, name))
		tells(t, class.Not(named(t, name)))
	}
	x := uint64(1)
	next := func() uint64 {
		x = x*6364136223846793005 + 1442695040888963407
		return x ^ x>>29
	}
	for range 400 {
		s := api.Set{next(), next(), next(), next()}
		tells(t, s)
		o := api.Set{next(), next(), next(), next()}
		for i := range s {
			s[i] &= o[i] & next()
		}
		tells(t, s)
		tells(t, class.Not(s))
	}
	tells(t, api.Set{0xaaaaaaaaaaaaaaaa, 0xaaaaaaaaaaaaaaaa, 0xaaaaaaaaaaaaaaaa, 0xaaaaaaaaaaaaaaaa})
	tells(t, api.Set{0x5555555555555555, 0x5555555555555555, 0x5555555555555555, 0x5555555555555555})
}

// R4 and R6: a text is new memory each time, and the same each time.
func TestTextIsNew(t *testing.T) {
	for _, s := range []api.Set{{}, class.Not(api.Set{}), setOf("]"), setOf("abc-")} {
		want := slices.Clone(brack.Text(s))
		one := brack.Text(s)
		for i := range one {
			one[i] = 'z'
		}
		_ = append(one[:1], "yyyy"...)
		if two := brack.Text(s); !bytes.Equal(two, want) {
			t.Errorf("%q, then %q", want, two)
		}
	}
}
