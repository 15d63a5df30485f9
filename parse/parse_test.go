package parse_test

import (
	"slices"
	"strings"
	"testing"

	"palinode/api"
	"palinode/bre"
	"palinode/ere"
	"palinode/parse"
)

// The sign » in a script of a table tells a place, and is none of its bytes.
const sign = "»"

// placed tells the script without the sign, and the sign's place.
func placed(t *testing.T, marked string) (string, int) {
	t.Helper()
	at := strings.Index(marked, sign)
	if at < 0 || strings.Count(marked, sign) != 1 {
		t.Fatalf("%q has no place, or two", marked)
	}
	return strings.Replace(marked, sign, "", 1), at
}

// wrong is a script in which something is wrong at the sign.
type wrong struct {
	script string
	e      api.Errno
}

// checkWrong asks each one, either as basic and as extended or as one of them.
func checkWrong(t *testing.T, kinds []bool, l ...wrong) {
	t.Helper()
	for _, x := range l {
		script, at := placed(t, x.script)
		for _, extended := range kinds {
			if got, want := told(script, extended), faultSeen(true, at, x.e); got != want {
				t.Errorf("%q, %v: %s, not %s", x.script, extended, got, want)
			}
		}
	}
}

var (
	both     = []bool{false, true}
	basic    = []bool{false}
	extended = []bool{true}
)

// right is a script, and the command that begins at the sign; of that At isn't told, and File only if it isn't NoFile, but as one more.
type right struct {
	script string
	want   api.Cmd
}

func checkRight(t *testing.T, kinds []bool, l ...right) {
	t.Helper()
	for _, x := range l {
		script, at := placed(t, x.script)
		for _, extended := range kinds {
			p := mustParse(t, script, extended).Program()
			i := slices.IndexFunc(p.Cmds, func(c api.Cmd) bool { return c.At == at })
			if i < 0 {
				t.Errorf("%q: none begins there: %v", x.script, p.Cmds)
				continue
			}
			want := x.want
			want.At = at
			if want.File == 0 {
				want.File = api.NoFile
			} else if want.File > 0 {
				want.File--
			}
			if got := seen(p.Cmds[i]); got != seen(want) {
				t.Errorf("%q, %v: %s, not %s", x.script, extended, got, seen(want))
			}
		}
	}
}

// mustParse parses what is right.
func mustParse(t *testing.T, script string, extended bool) *parse.Script {
	t.Helper()
	s, at, e := parse.Parse([]byte(script), extended)
	if s == nil || at != 0 || e != api.OK {
		t.Fatalf("Parse(%q, %v): %d at %d", script, extended, e, at)
	}
	return s
}

// kinds tells the letters of the commands of a script.
func kinds(t *testing.T, script string) string {
	t.Helper()
	var b []byte
	for _, c := range mustParse(t, script, false).Program().Cmds {
		b = append(b, c.Kind)
	}
	return string(b)
}

// of makes what a command has.
func line(n int) api.Addr { return api.Addr{Kind: api.ALine, N: n} }

func re(n int) api.Addr { return api.Addr{Kind: api.ARe, Re: n} }

var last = api.Addr{Kind: api.ALast}

func text(s string) api.Part { return api.Part{B: []byte(s)} }

func group(n int) api.Part { return api.Part{Kind: api.PGroup, Group: n} }

func parts(l ...api.Part) []api.Part { return l }

// P16.1: the example.
func TestExample(t *testing.T) {
	checkRight(t, both, right{"»1,3!s/a/[&]/2p", api.Cmd{
		One: line(1), Two: line(3), Not: true, Kind: 's',
		Parts: parts(text("["), group(0), text("]")), Nth: 2, Print: true,
	}})
	p := mustParse(t, "1,3!s/a/[&]/2p", false).Program()
	tree, _, _ := bre.Parse([]byte("a"))
	if len(p.Cmds) != 1 || seen(p.Res) != seen([]api.Re{tree}) || seen(p.Texts) != "[[97]]" || len(p.Names) != 0 || p.Quiet {
		t.Error(seen(p))
	}
}

// P16.1: scripts without a command.
func TestNoCommand(t *testing.T) {
	for _, script := range []string{
		"", " ", "\t", "\n", ";", " \t\n;;\n\t ;", "#", "# a", "#\n", "#a\n#b", "#p;p", " ;# p\n;\n\t#}", "#a\\\n", "#\x00\xff\r\n", "#n ", "#nn",
	} {
		for _, extended := range both {
			s := mustParse(t, script, extended)
			if got := seen(s.Program()); got != seen(api.Program{}) || s.Len() != 0 || s.Extended() != extended || s.Quiet() {
				t.Errorf("%q: %s", script, got)
			}
		}
	}
}

// P16.1: quiet scripts, and such as aren't.
func TestQuiet(t *testing.T) {
	for _, x := range []struct {
		script string
		want   bool
		kinds  string
	}{
		{"#n", true, ""},
		{"#n\n", true, ""},
		{"#n\np", true, "p"},
		{"#n\n\n#n\nd", true, "d"},
		{"#n\n#np\nd", true, "d"},
		{"#n\n;p", true, "p"},
		{"#np", false, ""},
		{"#n;p", false, ""},
		{"#n p\nx", false, "x"},
		{"#n \np", false, "p"},
		{"#n\t\np", false, "p"},
		{"#n\r\np", false, "p"},
		{"#n\x00", false, ""},
		{"#nn\np", false, "p"},
		{"#N\np", false, "p"},
		{"# n\np", false, "p"},
		{"##n\np", false, "p"},
		{"#\np", false, "p"},
		{"#", false, ""},
		{"n", false, "n"},
		{"n\n", false, "n"},
		{" #n", false, ""},
		{"\n#n\n", false, ""},
		{";#n\np", false, "p"},
		{"\t#n\np", false, "p"},
		{"p#n\n", false, "p"},
		{"p\n#n\n", false, "p"},
		{"p\n#n", false, "p"},
		{"", false, ""},
	} {
		s := mustParse(t, x.script, false)
		if s.Quiet() != x.want || s.Program().Quiet != x.want || kinds(t, x.script) != x.kinds {
			t.Errorf("%q: %v, %q", x.script, s.Quiet(), kinds(t, x.script))
		}
	}
	checkRight(t, both, right{"#n\n»p", api.Cmd{Kind: 'p'}}, right{"#n\n\n 1p;»x", api.Cmd{Kind: 'x'}})
	checkWrong(t, both, wrong{"#n\n»}", api.ErrBlock}, wrong{"»k#n\n", api.ErrCommand})
	for c := range 256 {
		script := "#n" + string([]byte{byte(c)}) + "\n"
		if got := mustParse(t, script, false).Quiet(); got != (c == '\n') {
			t.Errorf("%q: %v", script, got)
		}
	}
}

// P16.1: 4,096 bytes, and more.
func TestLong(t *testing.T) {
	for _, part := range []string{" ", "\n", ";", "#", "# a\n", "\t;"} {
		script := strings.Repeat(part, api.MaxScript)[:api.MaxScript]
		if s := mustParse(t, script, false); s.Len() != 0 {
			t.Errorf("%q, and so on: %v", part, s.Program())
		}
		sameAsModel(t, script+" ")
	}
	for _, n := range []int{api.MaxScript + 1, api.MaxScript + 2, 2 * api.MaxScript, 1 << 20} {
		for _, part := range []string{" ", "k", "}", "p;", "/", "\x00", "#n\n", "99999"} {
			script := strings.Repeat(part, n)[:n]
			if got := told(script, false); got != faultSeen(true, 0, api.ErrLong) {
				t.Errorf("%d of %q: %s", n, part, got)
			}
		}
	}
	full := "p;" + strings.Repeat(" ", api.MaxScript-3)
	checkRight(t, both, right{full + sign + "d", api.Cmd{Kind: 'd'}})
	checkWrong(t, both, wrong{full + sign + "}", api.ErrBlock}, wrong{"{" + full[:api.MaxScript-1] + sign, api.ErrBlock})
	if got := told("}"+full, false); got != faultSeen(true, 0, api.ErrBlock) {
		t.Error(got)
	}
	if got := told("p}"+full, false); got != faultSeen(true, 0, api.ErrLong) {
		t.Error(got)
	}
}

// tail is what stands behind a letter, ahead of a place where a newline may stand, and what the command has of it.
type tail struct {
	letter byte
	script string
	want   api.Cmd
}

// tails are some of each letter.
func tails() []tail {
	all := []tail{
		{'{', "}", api.Cmd{To: 1}},
		{':', "x", api.Cmd{Label: "x"}},
		{'b', "", api.Cmd{To: 1}},
		{'t', "", api.Cmd{To: 1}},
		{'a', "\\\nx", api.Cmd{Text: []byte("x\n")}},
		{'c', " \\\t\nx", api.Cmd{Text: []byte("x\n")}},
		{'i', "\\\n", api.Cmd{Text: []byte("\n")}},
		{'l', "", api.Cmd{Code: 70}},
		{'q', "", api.Cmd{}},
		{'r', " f", api.Cmd{Text: []byte("f")}},
		{'w', " f", api.Cmd{File: 1}},
		{'s', "/a/b/", api.Cmd{Parts: parts(text("b")), Nth: 1}},
		{'y', "/a/b/", api.Cmd{From: []byte("a"), Into: []byte("b")}},
	}
	for _, letter := range []byte("=dDgGhHnNpPx") {
		all = append(all, tail{letter, "", api.Cmd{}})
	}
	for i := range all {
		all[i].want.Kind = all[i].letter
	}
	return all
}

// ahead is what stands ahead of a letter, in pieces behind each of which blanks may stand.
type ahead struct {
	pieces   []string
	one, two api.Addr
	not      bool
	res      int
}

// aheads are some of each kind.
func aheads() []ahead {
	var all []ahead
	none := api.Addr{}
	for _, x := range []ahead{
		{nil, none, none, false, 0},
		{[]string{"3"}, line(3), none, false, 0},
		{[]string{"$"}, last, none, false, 0},
		{[]string{"/x/"}, re(0), none, false, 1},
		{[]string{`\;;`}, re(api.LastRe), none, false, 0},
		{[]string{"0", ",", "$"}, line(0), last, false, 0},
		{[]string{"$", ",", "2"}, last, line(2), false, 0},
		{[]string{"//", ",", "//"}, re(api.LastRe), re(api.LastRe), false, 0},
		{[]string{"/x/", ",", `\-y-`}, re(0), re(1), false, 2},
	} {
		for _, not := range [][]string{nil, {"!"}, {"!", "!"}} {
			y := x
			y.pieces = slices.Concat(x.pieces, not)
			y.not = not != nil
			all = append(all, y)
		}
	}
	return all
}

// spaced tells the pieces with blanks behind some of them, as the bits of where say, and ahead of them.
func spaced(pieces []string, where int, blanks string) string {
	script := ""
	for i, piece := range append([]string{""}, pieces...) {
		script += piece
		if where>>i&1 == 1 {
			script += blanks
		}
	}
	return script
}

// P16.1: each letter behind no address, one and two, with ! and blanks wherever they may stand.
func TestLetters(t *testing.T) {
	for _, x := range tails() {
		for _, a := range aheads() {
			for where := range 1 << (1 + len(a.pieces)) {
				checkLetter(t, x, a, spaced(a.pieces, where, " \t"), where&1*2)
			}
		}
	}
}

func checkLetter(t *testing.T, x tail, a ahead, head string, at int) {
	t.Helper()
	script := head + string([]byte{x.letter}) + x.script
	addresses := 0
	for _, address := range []api.Addr{a.one, a.two} {
		if address.Kind != api.ANone {
			addresses++
		}
	}
	if x.letter == ':' && (addresses > 0 || a.not) || strings.IndexByte("aiqr=", x.letter) >= 0 && addresses > 1 {
		checkWrong(t, both, wrong{head + sign + script[len(head):], api.ErrAddr})
		return
	}
	want := x.want
	want.One, want.Two, want.Not = a.one, a.two, a.not
	if want.Kind == 's' {
		want.Re = a.res
	}
	checkRight(t, both, right{script[:at] + sign + script[at:], want})
}

// P16.1: an end of a block has neither addresses nor a ! , nor has a # .
func TestBareLetters(t *testing.T) {
	for _, a := range aheads() {
		for where := range 1 << (1 + len(a.pieces)) {
			head := spaced(a.pieces, where, "\t")
			if len(a.pieces) == 0 {
				if got := kinds(t, "{"+head+"}"+head+"#p"); got != "{}" {
					t.Errorf("%q: %q", head, got)
				}
				continue
			}
			checkWrong(t, both,
				wrong{"{" + head + sign + "}", api.ErrAddr}, wrong{head + sign + "}", api.ErrAddr},
				wrong{head + sign + "#", api.ErrAddr}, wrong{"p;" + head + sign + "#}\n", api.ErrAddr})
		}
	}
}

// P16.1: a byte that is no letter of the table, and the end, where a letter must stand.
func TestNoLetter(t *testing.T) {
	const letters = "{}=dDgGhHnNpPx:btacilqrwsy"
	for c := range 256 {
		b := string([]byte{byte(c)})
		if strings.Contains(letters+"#", b) {
			continue
		}
		if !strings.Contains(" \t\n;!$/\\0123456789", b) {
			checkWrong(t, both, wrong{sign + b, api.ErrCommand}, wrong{"p; " + sign + b + "p", api.ErrCommand})
		}
		if !strings.Contains(" \t,!0123456789", b) {
			checkWrong(t, both, wrong{"12" + sign + b, api.ErrCommand}, wrong{"1,$ " + sign + b, api.ErrCommand})
		}
		if !strings.Contains(" \t!", b) {
			checkWrong(t, both, wrong{"!" + sign + b, api.ErrCommand}, wrong{"/a/!\t! " + sign + b + "p", api.ErrCommand})
		}
	}
	checkWrong(t, both,
		wrong{"3»", api.ErrCommand},
		wrong{"3 »", api.ErrCommand},
		wrong{"!»", api.ErrCommand},
		wrong{"! \t»", api.ErrCommand},
		wrong{"3!»", api.ErrCommand},
		wrong{"3!»\np", api.ErrCommand},
		wrong{"3»\np", api.ErrCommand},
		wrong{"3»;p", api.ErrCommand},
		wrong{"1,2»", api.ErrCommand},
		wrong{"1,2 !»", api.ErrCommand},
		wrong{"p\n$»", api.ErrCommand},
		wrong{"/a/ »", api.ErrCommand},
		wrong{"»,2p", api.ErrCommand},
		wrong{"»-1p", api.ErrCommand},
		wrong{"1»-2p", api.ErrCommand},
		wrong{"!»1p", api.ErrCommand},
		wrong{"1!»,2p", api.ErrCommand},
		wrong{"1,2»,3p", api.ErrCommand},
		wrong{"1 »2p", api.ErrCommand},
		wrong{"$»$p", api.ErrCommand},
		wrong{"//»//p", api.ErrCommand},
		wrong{"1\t»\n,2p", api.ErrCommand},
		wrong{"»+p", api.ErrCommand},
		wrong{"»e", api.ErrCommand},
	)
}

// P16.1: numbers as addresses.
func TestNumbers(t *testing.T) {
	checkRight(t, both,
		right{"»0p", api.Cmd{One: line(0), Kind: 'p'}},
		right{"»00p", api.Cmd{One: line(0), Kind: 'p'}},
		right{"»1p", api.Cmd{One: line(1), Kind: 'p'}},
		right{"»0071p", api.Cmd{One: line(71), Kind: 'p'}},
		right{"»2147483647p", api.Cmd{One: line(1<<31 - 1), Kind: 'p'}},
		right{"»2147483648p", api.Cmd{One: line(1 << 31), Kind: 'p'}},
		right{"»0002147483648p", api.Cmd{One: line(1 << 31), Kind: 'p'}},
		right{"»2147483648,0p", api.Cmd{One: line(1 << 31), Two: line(0), Kind: 'p'}},
		right{"»0,2147483648p", api.Cmd{One: line(0), Two: line(1 << 31), Kind: 'p'}},
		right{"»" + strings.Repeat("0", 4000) + "5p", api.Cmd{One: line(5), Kind: 'p'}},
	)
	checkWrong(t, both,
		wrong{"»2147483649p", api.ErrRange},
		wrong{"p\n »2147483649p", api.ErrRange},
		wrong{"»4294967296p", api.ErrRange},
		wrong{"»4294967297", api.ErrRange},
		wrong{"»9223372036854775808p", api.ErrRange},
		wrong{"»18446744073709551616p", api.ErrRange},
		wrong{"»18446744073709551617p", api.ErrRange},
		wrong{"»02147483649p", api.ErrRange},
		wrong{"»" + strings.Repeat("9", 4095), api.ErrRange},
		wrong{"1,»2147483649p", api.ErrRange},
		wrong{"1 , »99999999999999999999p", api.ErrRange},
		wrong{"»2147483649,2147483649p", api.ErrRange},
		wrong{"»2147483649,p", api.ErrRange},
		wrong{"$,»2147483649}", api.ErrRange},
	)
}

// P16.1: behind a comma an address must stand.
func TestComma(t *testing.T) {
	checkWrong(t, both,
		wrong{"1,»p", api.ErrAddr},
		wrong{"1, \t»p", api.ErrAddr},
		wrong{"1 ,»p", api.ErrAddr},
		wrong{"1,»", api.ErrAddr},
		wrong{"1,\t»", api.ErrAddr},
		wrong{"1,»\n2p", api.ErrAddr},
		wrong{"1, »;", api.ErrAddr},
		wrong{"1,»!p", api.ErrAddr},
		wrong{"1,»,2p", api.ErrAddr},
		wrong{"1,»-2p", api.ErrAddr},
		wrong{"1,»+2p", api.ErrAddr},
		wrong{"$,»}", api.ErrAddr},
		wrong{"$,»#", api.ErrAddr},
		wrong{"/a/,»k", api.ErrAddr},
		wrong{`\,a,,»q`, api.ErrAddr},
		wrong{"p;1,»,", api.ErrAddr},
		wrong{"1,»\x00", api.ErrAddr},
	)
	for c := range 256 {
		b := string([]byte{byte(c)})
		if !strings.Contains(" \t$/\\0123456789", b) {
			checkWrong(t, both, wrong{"1,»" + b, api.ErrAddr})
		}
	}
}

// P16.1: regular expressions as addresses, with delimiters of each kind.
func TestRegexAddresses(t *testing.T) {
	for c := range 256 {
		d := string([]byte{byte(c)})
		if !strings.Contains(delims, d) {
			checkWrong(t, both, wrong{`\` + sign + d + "a" + d + "p", api.ErrDelim}, wrong{`$,\` + sign + d, api.ErrDelim})
			continue
		}
		script := `\` + d + "a" + d + `,\` + d + `b\` + d + d + "p"
		checkRight(t, both, right{sign + script, api.Cmd{One: re(0), Two: re(1), Kind: 'p'}})
		p := mustParse(t, script, false).Program()
		one, _, _ := bre.Parse([]byte("a"))
		two, _, _ := bre.Parse([]byte(`b\` + d))
		if seen(p.Res) != seen([]api.Re{one, two}) || seen(p.Texts) != seen([][]byte{[]byte("a"), []byte(`b\` + d)}) {
			t.Errorf("%q: %s", script, seen(p))
		}
		checkRight(t, both, right{`»\` + d + d + "p", api.Cmd{One: re(-1), Kind: 'p'}})
		checkWrong(t, both, wrong{`\` + sign + d, api.ErrDelim}, wrong{`\` + sign + d + `a\` + d + "p", api.ErrDelim},
			wrong{`\` + sign + d + "a\n" + d + "p", api.ErrDelim})
	}
	checkRight(t, both,
		right{"»/a/p", api.Cmd{One: re(0), Kind: 'p'}},
		right{"»//p", api.Cmd{One: re(-1), Kind: 'p'}},
		right{"»//,/a/p", api.Cmd{One: re(-1), Two: re(0), Kind: 'p'}},
		right{"»/a/,//p", api.Cmd{One: re(0), Two: re(-1), Kind: 'p'}},
		right{"/a/p;»/a/,/a/p", api.Cmd{One: re(1), Two: re(2), Kind: 'p'}},
		right{"/a/p;//p;s//b/;»/a/p", api.Cmd{One: re(1), Kind: 'p'}},
		right{"»/\\\n/p", api.Cmd{One: re(0), Kind: 'p'}},
		right{`»\/a\/b/p`, api.Cmd{One: re(0), Kind: 'p'}},
		right{"»/;#}!/{}", api.Cmd{One: re(0), Kind: '{', To: 1}},
	)
	checkWrong(t, both,
		wrong{"»/", api.ErrDelim},
		wrong{"»/a", api.ErrDelim},
		wrong{`»/a\/`, api.ErrDelim},
		wrong{`»/a\`, api.ErrDelim},
		wrong{"»/a\n/p", api.ErrDelim},
		wrong{"»/a\\\\\n/p", api.ErrDelim},
		wrong{"1,»/a", api.ErrDelim},
		wrong{`/a/,\»;a`, api.ErrDelim},
		wrong{"/»[/p", api.ErrBracket},
		wrong{`\»`, api.ErrDelim},
		wrong{`\»` + "\n", api.ErrDelim},
		wrong{`\»(a(p`, api.ErrDelim},
		wrong{`1,\»`, api.ErrDelim},
		wrong{`\»\a\p`, api.ErrDelim},
		wrong{`\»`, api.ErrDelim},
	)
}

// P16.1: what is wrong in a regular expression is told where it stands in the script.
func TestWrongRegexes(t *testing.T) {
	checkWrong(t, both,
		wrong{"/a»[b-a]/p", api.ErrRange},
		wrong{"/x»[[:none:]]/p", api.ErrClass},
		wrong{`$,/a»\q/p`, api.ErrEscape},
		wrong{`\,»[,p`, api.ErrBracket},
		wrong{"/a/,/»[/p", api.ErrBracket},
		wrong{`s/a»\1/b/`, api.ErrBack},
		wrong{`1!s,»\2,b,`, api.ErrBack},
		wrong{"p\ns/»[]/b/", api.ErrBracket},
		wrong{`s/a/b/;/»\0/p`, api.ErrEscape},
		wrong{`/»[[.ab.]]/,/a`, api.ErrClass},
	)
	checkWrong(t, basic,
		wrong{`/\(a»/p`, api.ErrParen},
		wrong{`/a»\)/p`, api.ErrParen},
		wrong{`//,/a»\{3,2\}/p`, api.ErrRepeat},
		wrong{`/»\{2\}/p`, api.ErrRepeat},
		wrong{`s/` + strings.Repeat(`\(a\)`, 9) + `»\(b\)/c/`, api.ErrGroups},
	)
	checkWrong(t, extended,
		wrong{`/(a»/p`, api.ErrParen},
		wrong{`/a»)/p`, api.ErrParen},
		wrong{`/a|»/p`, api.ErrEmpty},
		wrong{`s,»*a,b,`, api.ErrRepeat},
		wrong{`s/` + strings.Repeat("(a)", 9) + `»(b)/c/`, api.ErrGroups},
		wrong{`/a»{3,2}/p`, api.ErrRepeat},
	)
	checkRight(t, basic,
		right{"»/(a/p", api.Cmd{One: re(0), Kind: 'p'}},
		right{"»/*a|/p", api.Cmd{One: re(0), Kind: 'p'}},
	)
	checkRight(t, extended, right{`»/\(a/p`, api.Cmd{One: re(0), Kind: 'p'}})
	for _, long := range []string{strings.Repeat("a", 501), strings.Repeat("ab", 500)} {
		_, at, e := bre.Parse([]byte(long))
		if e != api.ErrLong {
			t.Fatal(e)
		}
		checkWrong(t, both, wrong{"p;/" + long[:at] + sign + long[at:] + "/p", api.ErrLong})
	}
	checkRight(t, both, right{"p;»/" + strings.Repeat("a", 500) + "/p", api.Cmd{One: re(0), Kind: 'p'}})
}

// P16.1: regular expressions stand one behind the other as they are written, basic or extended.
func TestRegexes(t *testing.T) {
	script := `/a+/,\,(b)\,,!s/a|b/c/;//s//d/;\=x\=={/a+/{s;[x];e;}};y/a/b/`
	written := []string{`a+`, `(b)\,`, `a|b`, `x\=`, `a+`, `[x]`}
	for _, extended := range both {
		p := mustParse(t, script, extended).Program()
		var trees []api.Re
		var texts [][]byte
		for _, w := range written {
			tree, _, e := bre.Parse([]byte(w))
			if extended {
				tree, _, e = ere.Parse([]byte(w))
			}
			if e != api.OK {
				t.Fatal(w, e)
			}
			trees = append(trees, tree)
			texts = append(texts, []byte(w))
		}
		if seen(p.Res) != seen(trees) || seen(p.Texts) != seen(texts) {
			t.Errorf("%v: %s", extended, seen(p))
		}
		if c := p.Cmds; c[0].Re != 2 || c[1].Re != api.LastRe || c[1].One.Re != api.LastRe || c[2].One.Re != 3 || c[3].One.Re != 4 || c[4].Re != 5 {
			t.Errorf("%v: %s", extended, seen(p.Cmds))
		}
	}
}

// P16.1: blocks, one in another and one behind the other.
func TestBlocks(t *testing.T) {
	for _, x := range []struct {
		script string
		kinds  string
		to     []int
	}{
		{"{}", "{}", []int{1, 0}},
		{"{};", "{}", []int{1, 0}},
		{"{p}", "{p}", []int{2, 0, 0}},
		{"{p;}", "{p}", []int{2, 0, 0}},
		{"{;p;}", "{p}", []int{2, 0, 0}},
		{"{ \n;#}\n}", "{}", []int{1, 0}},
		{"{{}}", "{{}}", []int{3, 2, 0, 0}},
		{"{}{}", "", nil},
		{"{};{}", "{}{}", []int{1, 0, 3, 0}},
		{"p{}", "", nil},
		{"1{2{p};/a/{x}}", "{{p}{x}}", []int{7, 3, 0, 0, 6, 0, 0, 0}},
		{"{p}#a\nx", "{p}x", []int{2, 0, 0, 0}},
		{"{p }\t", "{p}", []int{2, 0, 0}},
		{"{{{p}}\n} #", "{{{p}}}", []int{6, 5, 4, 0, 0, 0, 0}},
	} {
		s, _, e := parse.Parse([]byte(x.script), false)
		if x.kinds == "" {
			if e != api.ErrExtra {
				t.Errorf("%q: %d", x.script, e)
			}
			continue
		}
		if e != api.OK || kinds(t, x.script) != x.kinds {
			t.Errorf("%q: %d", x.script, e)
			continue
		}
		for i, c := range s.Program().Cmds {
			if c.To != x.to[i] {
				t.Errorf("%q: the command %d goes to %d", x.script, i, c.To)
			}
		}
	}
	checkWrong(t, both,
		wrong{"{»", api.ErrBlock},
		wrong{"{p»", api.ErrBlock},
		wrong{"{p\n »", api.ErrBlock},
		wrong{"{{}»", api.ErrBlock},
		wrong{"{ #}»", api.ErrBlock},
		wrong{"1{2{p};p\n»", api.ErrBlock},
		wrong{"{a\\\nx}»", api.ErrBlock},
		wrong{"{r f}»", api.ErrBlock},
		wrong{"{s/a/b/w f}\n»", api.ErrBlock},
		wrong{"»}", api.ErrBlock},
		wrong{"p;»}", api.ErrBlock},
		wrong{"p»}", api.ErrBlock},
		wrong{"{}»}", api.ErrBlock},
		wrong{"{} \t»}p", api.ErrBlock},
		wrong{"{p}; »}", api.ErrBlock},
		wrong{"»};{", api.ErrBlock},
		wrong{"{}»{}", api.ErrExtra},
		wrong{"{p}»p", api.ErrExtra},
		wrong{"{p} »1p", api.ErrExtra},
		wrong{"p»{}", api.ErrExtra},
		wrong{"{1»}", api.ErrAddr},
		wrong{"{!»}", api.ErrAddr},
		wrong{"{1,2 »}", api.ErrAddr},
		wrong{"1»}", api.ErrAddr},
	)
}

// P16.1: 20 blocks one in another, and one more.
func TestDepth(t *testing.T) {
	deep := strings.Repeat("{", api.MaxDepth)
	ends := strings.Repeat("}", api.MaxDepth)
	for i, c := range mustParse(t, deep+"p"+ends, false).Program().Cmds {
		if want := 40 - i; i < 20 && c.To != want || i >= 20 && c.To != 0 {
			t.Errorf("the command %d goes to %d", i, c.To)
		}
	}
	if got := kinds(t, deep+"}\n{}"+ends[1:]+";{}"); len(got) != 44 {
		t.Error(got)
	}
	if got := kinds(t, strings.Repeat("{};", 100)); len(got) != 200 {
		t.Error(got)
	}
	checkWrong(t, both,
		wrong{deep + "»{", api.ErrFull},
		wrong{deep + "»{}" + ends, api.ErrFull},
		wrong{deep + "p;1,2! »{}" + ends, api.ErrFull},
		wrong{deep + "};{»{", api.ErrFull},
		wrong{deep + ends[:3] + "\n{{{»{", api.ErrFull},
		wrong{deep + "»k", api.ErrCommand},
		wrong{deep + ends + "»}", api.ErrBlock},
		wrong{deep + ends[1:] + sign, api.ErrBlock},
		wrong{deep + "1,»{", api.ErrAddr},
	)
}

// P16.1: 200 commands, and one more.
func TestCommands(t *testing.T) {
	all := strings.Repeat("p;", api.MaxCmds)
	inBlock := "{" + strings.Repeat("p;", api.MaxCmds-1)
	for _, script := range []string{all, all + "\n;#p\n", "#n\n" + all, inBlock[:len(inBlock)-2] + "}", "#p\n;" + all} {
		if s := mustParse(t, script, false); s.Len() != api.MaxCmds {
			t.Errorf("%q: %d", script, s.Len())
		}
	}
	if n := mustParse(t, all[2:], false).Len(); n != api.MaxCmds-1 {
		t.Error(n)
	}
	for _, command := range []string{"»p", "1»p", "1,2! »p", "»{}", "»:x", "»bx", "»a", "»s", "»yx", "»q 256", "»w", "»=x"} {
		checkWrong(t, both, wrong{all + command, api.ErrFull}, wrong{all + command + all, api.ErrFull})
	}
	checkWrong(t, both,
		wrong{inBlock + "»}", api.ErrFull},
		wrong{inBlock + "1»}", api.ErrAddr},
		wrong{all + "»}", api.ErrBlock},
		wrong{all + "1»:x", api.ErrAddr},
		wrong{all + "1,2»q", api.ErrAddr},
		wrong{all + "»k", api.ErrCommand},
		wrong{all + "1»", api.ErrCommand},
		wrong{all + "»/a", api.ErrDelim},
		wrong{all + "1,»p", api.ErrAddr},
		wrong{all + "»2147483649p", api.ErrRange},
		wrong{inBlock + sign, api.ErrBlock},
		wrong{all[:398] + "bx;»p", api.ErrFull},
	)
}
