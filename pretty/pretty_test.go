package pretty_test

import (
	"bytes"
	"math"
	"slices"
	"strconv"
	"strings"
	"testing"

	"palinode/api"
	"palinode/parse"
	"palinode/pretty"
	"palinode/retext"
)

var (
	basic    = []bool{false}
	extended = []bool{true}
)

const word16 = "Label_0123456789"

// mustParse tells the program of a script that is right.
func mustParse(t *testing.T, script string, extended bool) api.Program {
	t.Helper()
	s, at, e := parse.Parse([]byte(script), extended)
	if e != api.OK {
		t.Fatalf("%q, %v: %d at %d", script, extended, e, at)
	}
	return s.Program()
}

// mustText tells a script of a program that has one.
func mustText(t *testing.T, p api.Program, extended bool) string {
	t.Helper()
	b, ok := ask(t, p, extended)
	if !ok {
		t.Fatalf("%s, %v: none", seen(p), extended)
	}
	return string(b)
}

// checkTold asks for scripts of the programs of scripts that could not be shorter.
func checkTold(t *testing.T, kinds []bool, scripts ...string) {
	t.Helper()
	for _, script := range scripts {
		for _, extended := range kinds {
			p := mustParse(t, script, extended)
			if got := mustText(t, p, extended); len(got) != len(script) {
				t.Errorf("%q, %v: %q", script, extended, got)
			}
			checkFull(t, script, extended)
		}
	}
}

// checkFull puts a text ahead of a script that could not be shorter, so that it is as long as a script may be, and then one byte longer.
func checkFull(t *testing.T, script string, extended bool) {
	t.Helper()
	head, rest := "", script
	if script == "#n" || strings.HasPrefix(script, "#n\n") {
		head, rest = "#n\n", strings.TrimPrefix(script[2:], "\n")
	}
	if rest != "" {
		rest = "\n" + rest
	}
	head += "a\\\n"
	full := head + strings.Repeat("x", api.MaxScript-len(head)-len(rest)) + rest
	s, _, e := parse.Parse([]byte(full), extended)
	if e == api.ErrFull {
		return // with the command ahead of it there are too many
	}
	p := s.Program()
	if got := mustText(t, p, extended); len(got) != api.MaxScript {
		t.Errorf("%q, and what fills it up: %d bytes", script, len(got))
	}
	p.Cmds[0].Text = slices.Insert(p.Cmds[0].Text, 5, 'y')
	if got, ok := ask(t, p, extended); ok {
		t.Errorf("%q, and more than fills it up: %d bytes", script, len(got))
	}
}

// pair is a script, and one that says the same and could not be shorter.
type pair struct{ long, short string }

func checkPairs(t *testing.T, kinds []bool, l ...pair) {
	t.Helper()
	for _, x := range l {
		checkTold(t, kinds, x.short)
		for _, extended := range kinds {
			p := mustParse(t, x.long, extended)
			if !parse.Same(p, mustParse(t, x.short, extended)) {
				t.Fatalf("%q and %q aren't the same", x.long, x.short)
			}
			if got := mustText(t, p, extended); len(got) != len(x.short) {
				t.Errorf("%q, %v: %q", x.long, extended, got)
			}
		}
	}
}

// P17.1: the example, and the other commands that are a letter alone.
func TestExample(t *testing.T) {
	for _, letter := range "=dDgGhHnNpPx" {
		want := string(letter)
		for _, extended := range both {
			b, ok := pretty.Text(api.Program{Cmds: []api.Cmd{{Kind: byte(letter), File: api.NoFile}}}, extended)
			if !ok || string(b) != want {
				t.Errorf("%q: %q, %v", want, b, ok)
			}
		}
	}
	checkTold(t, both, "d")
}

// P17.1 and R3: the empty program, quiet and not; lists that are nil and such as have no elements.
func TestNoCommand(t *testing.T) {
	for _, p := range []api.Program{{}, {Cmds: []api.Cmd{}, Res: []api.Re{}, Texts: [][]byte{}, Names: []string{}}} {
		for _, extended := range both {
			if got := mustText(t, p, extended); got != "" {
				t.Errorf("%q", got)
			}
			p.Quiet = true
			if got := mustText(t, p, extended); got != "#n" {
				t.Errorf("%q", got)
			}
			p.Quiet = false
		}
	}
	checkPairs(t, both,
		pair{" \n;# n\n#n", ""},
		pair{"#n\n\n;# n", "#n"},
		pair{"#n\n ; p # end\n", "#n\np"},
		pair{"#p\np\n\n", "p"},
	)
	p := mustParse(t, "p", false)
	p.Cmds[0].Text, p.Cmds[0].Parts, p.Cmds[0].From, p.Cmds[0].Into = []byte{}, []api.Part{}, []byte{}, []byte{}
	if got := mustText(t, p, false); got != "p" {
		t.Errorf("%q", got)
	}
}

// tails are some of each letter, and what may stand behind it.
func tails() []string {
	l := []string{"{}", ":x", "b", "bx;:x", "t", "a\\\nx", "c\\\n", "i\\\n\\\n", "l", "l1", "q", "q1", "rf", "wf", "w/dev/stdout",
		"s/a/b/", "s//&/gp2wf", "y/a/b/"}
	for _, letter := range "=dDgGhHnNpPx" {
		l = append(l, string(letter))
	}
	return l
}

// P17.1: each letter with no address, one and two, with Not and without; where none may be, no script says so.
func TestLetters(t *testing.T) {
	for _, tail := range tails() {
		for _, lines := range []string{"", "0", "12", "$", "/x/", "//", `\,/,`, "1,2147483648", "$,$", "/x/,/x/", "//,1", `$,\;/;`, "3,//"} {
			for _, not := range []string{"", "!"} {
				for _, extended := range both {
					checkLetter(t, tail, lines, not, extended)
				}
			}
		}
	}
}

func checkLetter(t *testing.T, tail, lines, not string, extended bool) {
	t.Helper()
	bare := tail[0] == ':' && lines+not != ""
	if bare || among("aiqr=", tail[0]) && strings.Contains(lines, ",") && lines != `\,/,` {
		p := mustParse(t, lines+not+"p;"+tail, extended)
		c := &p.Cmds[1]
		c.One, c.Two, c.Not = p.Cmds[0].One, p.Cmds[0].Two, p.Cmds[0].Not
		p.Cmds = p.Cmds[1:]
		if b, ok := ask(t, p, extended); ok {
			t.Errorf("%s: %q", seen(p), b)
		}
		return
	}
	checkTold(t, []bool{extended}, lines+not+tail)
}

// P17.1: what must stand between two commands, and ahead of the end of a block.
func TestTwo(t *testing.T) {
	for _, one := range tails() {
		apart := ";"
		if among("acirw", one[0]) || strings.HasSuffix(one, "wf") {
			apart = "\n"
		}
		end := strings.TrimSuffix(apart, ";")
		checkTold(t, both, "{"+one+end+"}", "1!{"+one+end+"};p", "{{"+one+end+"}}", "#n\n"+one)
		for _, behind := range []string{"p", "{}", "1,2!d", ":y", "a\\\nx", "/a/s//b/", "$!{p;{d}}", "wf", "rf"} {
			checkTold(t, both, one+apart+behind, "#n\n"+one+apart+behind)
		}
	}
	checkPairs(t, both, pair{"p;\n;d # x\n;; x", "p;d;x"}, pair{"{ p ; } ; d", "{p};d"}, pair{"{\n\n}\n", "{}"})
}

// P17.1: blocks within one another, empty ones, and 20 of them.
func TestBlocks(t *testing.T) {
	checkTold(t, both, "{}", "{};{}", "{{}}", "{{};{}}", "p;{d};x", "{p;{d;{x};g};h};n", "1{$!{//{}}}", "{wf\n}", "{a\\\nx\n}", "{b};{t}",
		strings.Repeat("{", 20)+strings.Repeat("}", 20),
		strings.Repeat("{p;", 20)+"d"+strings.Repeat("}", 20),
		strings.Repeat("{};", 66)+"{}",
	)
	one := mustParse(t, strings.Repeat("{", 20)+strings.Repeat("}", 20), false)
	cmds := []api.Cmd{{Kind: '{', To: 41, File: api.NoFile}}
	for _, c := range append(one.Cmds, api.Cmd{Kind: '}', File: api.NoFile}) {
		if c.Kind == '{' {
			c.To++
		}
		cmds = append(cmds, c)
	}
	if b, ok := ask(t, api.Program{Cmds: cmds}, false); ok {
		t.Errorf("21 blocks: %q", b)
	}
}

// P17.1: 200 commands, and more.
func TestManyCommands(t *testing.T) {
	for _, c := range []api.Cmd{{Kind: 'p', File: api.NoFile}, {Kind: 'b', Label: "x", File: api.NoFile}} {
		for _, n := range []int{199, 200, 201, 2000, 5000} {
			p := api.Program{Cmds: []api.Cmd{{Kind: ':', Label: "x", File: api.NoFile}}}
			for len(p.Cmds) < n {
				p.Cmds = append(p.Cmds, c)
			}
			if _, ok := ask(t, p, true); ok != (n <= 200) {
				t.Errorf("%d commands: %v", n, ok)
			}
		}
	}
}

// P17.1: each kind of address, and numbers as they are written.
func TestAddresses(t *testing.T) {
	checkTold(t, both, "0p", "1p", "9p", "10p", "999p", "1000p", "2147483647p", "2147483648p", "2147483648,0p", "1,1p", "$p", "$,1p", "1,$p", "$,$p",
		"//p", "//,//p", "//,/a/p", "/a/,//p", "/a/,/b/p", "/a/,$p", "1,/a/p", `\,/,,\;/;p`)
	checkPairs(t, both,
		pair{"001 , 0010 ! ! p", "1,10!p"},
		pair{`\,a,p`, "/a/p"},
		pair{`\;; , \||p`, "//,//p"},
		pair{`\!a/b!p`, `\,a/b,p`},
	)
}

// P17.1: regular expressions that hold delimiters.
func TestDelimiters(t *testing.T) {
	for _, d := range strings.Split(delims, "") {
		others := strings.ReplaceAll(delims, d, "")
		script := `\` + d + others + d + "p"
		if d == "/" {
			script = script[1:]
		}
		checkTold(t, both,
			"/"+`\`+d+"/p", "/["+`\`+d+"]/p", "/a"+`\`+d+"b/,/"+`\\\`+d+"/p",
			"s"+d+"["+others+"]"+d+"x"+d,
			"s"+d+"["+others+"]"+d+`\`+d+others+`\`+d+"a"+d+"gp",
			"y"+d+others+d+others+d,
			"y"+d+others+`\`+d+d+others+"a"+d,
			"s"+d+d+others+others+`\`+d+d,
		)
		checkTold(t, basic, script)
		if d != "/" {
			checkPairs(t, both, pair{`\` + d + "a" + d + "p", "/a/p"})
		}
		checkPairs(t, both,
			pair{"s" + d + `a\` + d + d + `x\` + d + d, "s" + other(d) + `a\` + d + other(d) + "x" + d + other(d)},
			pair{"y" + d + `a\` + d + d + `\` + d + "a" + d, "y" + other(d) + "a" + d + other(d) + d + "a" + other(d)},
		)
	}
}

// other tells a delimiter that isn't d.
func other(d string) string {
	if d == "/" {
		return ","
	}
	return "/"
}

// P17.1: regular expressions in which each delimiter stands: no script says them as they are, but with a \ ahead of one.
func TestAllDelimiters(t *testing.T) {
	for _, extended := range both {
		for _, script := range []string{"/a/p", "1,/a/p", "s/a/b/", "/a/!{/b/p}"} {
			p := mustParse(t, script, extended)
			p.Texts[0] = []byte("[" + delims + "]")
			p.Res[0], _, _ = retext.Parse(p.Texts[0], extended)
			if b, ok := ask(t, p, extended); ok {
				t.Errorf("%q: %q", script, b)
			}
			p.Texts[0] = []byte("[" + strings.Replace(delims, ";", `\;`, 1) + "]")
			p.Res[0], _, _ = retext.Parse(p.Texts[0], extended)
			if b := mustText(t, p, extended); !strings.Contains(b, ";[") {
				t.Errorf("%q: %q", script, b)
			}
		}
	}
}

// P17.1: regular expressions and replacements that hold what means something in a script.
func TestSigns(t *testing.T) {
	checkTold(t, both,
		"/a;b}c#d,/!p", "/ a\t/p", `/\\/p`, `/\\\\/p`, `/a\nb/p`, "/a\\\nb/p", "/[\\\n]/p", `/[\n]/p`, `/[\]/p`, `\,[/\],p`, `\;[/,\];p`, "/\x00\xff/p", "/#n/p", "/^$/p", "/[[.a.]]/,/[^]]/p",
		"s/;/}/", "s/#/{/", "s/p;p/#p}/p", "s/ /\t/", `s/\\/\\/`, `s/a/\\\\/`, `s/a/\&&\&/`, `s/a/x\ny/`, `s/a/\n/`, `s/a/\\n/`, "s/a\\\nb/c/", "s/\x00/\xff/",
		"s///", "s//a/", "s//&/", `s//\1\2\9/`, "s/a//", "s/a/&&/", "s/a/&0&/", `s//\1123/`,
	)
	checkPairs(t, both,
		pair{"s/a/x\\\ny/", `s/a/x\ny/`},
		pair{`s/a/\x\y\;\0\ /`, "s/a/xy;0 /"},
		pair{`s/a\/b/c\/d/`, `s,a\/b,c/d,`},
		pair{`s/a/\/,/`, "s;a;/,;"},
	)
	checkTold(t, basic, `s/\(a\)/\1/`, `s/\(a\)\(b\)\1/\2&\1/`, "s/(a)/&/", `/x\{2,3\}/p`, "s/*a/b/")
	checkTold(t, extended, `s/(a)/\1/`, `s/(a)|(b)/\2&\1/`, `s/\(a\)/&/`, "/x{2,3}|y+?/p", "s/(a)(b)(c)(d)(e)(f)(g)(h)(i)/"+`\9\1/`, "/(a|b)*/p")
}

// P17.1: regular expressions that are those of the one kind, and not of the other.
func TestKinds(t *testing.T) {
	for _, x := range []struct {
		regex           string
		basic, extended bool
	}{
		{"a", true, true}, {"a*b", true, true}, {"^a$", true, true}, {"[a|b]", true, true}, {`\.\n`, true, true}, {"a.[^b]", true, true},
		{"a|b", true, false}, {"(a)", true, false}, {`\(a\)`, true, false}, {"a+", true, false}, {"a?", true, false}, {"a{2}", true, false}, {`a\{2\}`, true, false},
		{"a|b", false, true}, {"(a)", false, true}, {`\(a\)`, false, true}, {"a+", false, true}, {"a{2}", false, true},
		{"*", true, false}, {"a^b", true, false}, {"a$b", true, false}, {"a^b", false, true}, {"(", true, false}, {`\(a\)\1`, true, false}, {`(a)\1`, false, true},
	} {
		for _, script := range []string{"s,%,x,", `\,%,p`, "1,/%/p;d"} {
			p := mustParse(t, strings.ReplaceAll(script, "%", x.regex), x.extended && !x.basic)
			for kind, want := range []bool{x.basic, x.extended} {
				if b, ok := ask(t, p, kind == 1); ok != want {
					t.Errorf("%q, %d: %q, %v", x.regex, kind, b, ok)
				}
			}
		}
	}
}

// P17.1: the same regular expression in two commands has two numbers; one that two share by its number, no script says.
func TestSharedRegex(t *testing.T) {
	checkTold(t, both, "/a/p;/a/d", "/a/,/a/p", "/a/s/a/a/", "s/a/b/;s/a/c/;//p", "s//a/;/a/s//b/")
	for _, extended := range both {
		for _, script := range []string{"/a/p;/a/d", "/a/,/a/p", "/a/s/a/a/"} {
			for _, keep := range []bool{false, true} {
				p := mustParse(t, script, extended)
				for i := range p.Cmds {
					c := &p.Cmds[i]
					c.One.Re, c.Two.Re, c.Re = 0, 0, 0
				}
				if !keep {
					p.Res, p.Texts = p.Res[:1], p.Texts[:1]
				}
				if b, ok := ask(t, p, extended); ok {
					t.Errorf("%q, %v: %q", script, keep, b)
				}
			}
		}
	}
}

// P17.1: labels, and jumps.
func TestLabels(t *testing.T) {
	checkTold(t, both, ":a", ":_", ":0", ":Z", ":"+word16, "b", "t", "b;t", "ba;:a", ":a;ba", ":a;ta;p", "p;tb;d;:b;x;bb",
		"b"+word16+";:"+word16, ":"+word16+"\nt"+word16+"\nb"+word16[1:]+";:"+word16[1:], "{ba};:a", "{:a;{ba}}", "1,$!bx;:x", "{b};p", ":b;bb", ":t;tt;t")
	checkPairs(t, both,
		pair{"b a ; : a", "ba;:a"},
		pair{": a\n$! t\ta # x", ":a;$!ta"},
		pair{"b ;p", "b;p"},
	)
}

// P17.1: the texts of a, c and i.
func TestTexts(t *testing.T) {
	for _, letter := range []string{"a", "c", "i", "$!a", "1,2c"} {
		for _, text := range []string{"", "x", " x", "\t  x ", `\\`, "\\\n", "x\\\ny", "\\\n\\\n", `\\` + "\\\n" + `\\`, ";p}#", "#n", "\x00\xff\r", `\\n`, `&\\1/`} {
			script := letter + "\\\n" + text
			checkTold(t, both, script, script+"\np", "{"+script+"\n}", "p;"+script, script+"\n"+script, "#n\n"+script)
		}
	}
	checkPairs(t, both,
		pair{"a \\ \n\\x\\y", "a\\\nxy"},
		pair{"a\\\n\\ x\n", "a\\\n x"},
		pair{"i\\\n\n", "i\\\n"},
		pair{"c\t\\\t\nx\n;p", "c\\\nx\np"},
	)
}

// P17.1: the numbers of l and q.
func TestCodes(t *testing.T) {
	for _, letter := range []string{"l", "q", "$!l", "1q"} {
		checkTold(t, both, letter, letter+"1", letter+"9", letter+"69", letter+"71", letter+"255", letter+";p", letter+"8;p", "{"+letter+"}")
	}
	checkTold(t, both, "l0", "q70")
	checkPairs(t, both, pair{"l70", "l"}, pair{"l 070 ; l 00", "l;l0"}, pair{"q0", "q"}, pair{"q 000", "q"}, pair{"q 070", "q70"})
	for code := range 256 {
		for i, letter := range []string{"l", "q"} {
			p := mustParse(t, letter+strconv.Itoa(code), false)
			if got := mustText(t, p, false); code == []int{70, 0}[i] && got != letter {
				t.Errorf("%q", got)
			}
		}
	}
}

// P17.1: names of all lengths, and of all bytes; the standard output; one name in two commands.
func TestNames(t *testing.T) {
	all := ""
	for c := 33; c < 127; c++ {
		all += string(rune(c))
	}
	for n := 1; n <= api.MaxName; n++ {
		for _, name := range []string{all[:n], all[len(all)-n:], strings.Repeat("#", n)} {
			checkTold(t, both, "r"+name, "w"+name, "s///w"+name, "w"+name+"\np\ns/a/b/gw"+name+"\nr"+name)
		}
	}
	checkTold(t, both, "w/dev/stdout", "s///w/dev/stdout", "r/dev/stdout", "w/dev/stdout2", "w/dev/stdout\nw/dev/stdout", "wa\nwb\nwa", "wa\ns///wa\nwb\ns//x/pwb", "w/dev/stdout\nwa", "{wa\n}")
	checkPairs(t, both, pair{"w a\n;w\tb\nr  c\n", "wa\nwb\nrc"}, pair{"s///w \t a\n", "s///wa"})
	sixteen := ""
	for i := range api.MaxFiles {
		sixteen += []string{"w", "s/a/b/w"}[i%2] + strconv.Itoa(i) + "\n"
	}
	checkTold(t, both, sixteen+"p", sixteen+"w3", sixteen+"w/dev/stdout", sixteen+"r16")
	p := mustParse(t, sixteen, false)
	p.Cmds = append(p.Cmds, api.Cmd{Kind: 'w', File: 16})
	p.Names = append(p.Names, "16")
	if b, ok := ask(t, p, false); ok {
		t.Errorf("17 names: %q", b)
	}
}

// P17.1: flags of s, each alone and all together.
func TestFlags(t *testing.T) {
	for _, nth := range []string{"", "2", "9", "10", "99", "100", "512"} {
		for _, other := range []string{"", "g", "p", "gp"} {
			for _, file := range []string{"", "wf", "w/dev/stdout"} {
				apart := ";"
				if file != "" {
					apart = "\n"
				}
				checkTold(t, both, "s/a/b/"+other+nth+file, "1!s//\\9/"+other+nth+file+apart+"p")
			}
		}
	}
	checkPairs(t, both,
		pair{"s/a/b/1", "s/a/b/"},
		pair{"s/a/b/p001g", "s/a/b/gp"},
		pair{"s/a/b/0512pgw  f", "s/a/b/gp512wf"},
		pair{"s/a/b/g2p ; d", "s/a/b/2gp;d"},
	)
}

// P17.1: rows of y.
func TestRows(t *testing.T) {
	checkTold(t, both, "y///", "y/a/b/", "y/abc/cab/", `y/\n/\\/`, `y/\\\n/\n\\/`, `y/\\n/an/`, "y/ab/  /", "y/;}#/{!,/", "y/\x00\xff/\xff\x00/", "1,2!y/a/b/;p", "{y/a/b/}", `y/a\nb/\n\n\n/`)
	checkPairs(t, both,
		pair{`y/\//;/`, "y,/,;,"},
		pair{`y,\,/,/\,,`, "y;,/;/,;"},
		pair{"y,/,a, # x\n;p", "y;/;a;;p"},
	)
	from, into := "", ""
	for c := range 256 {
		switch b := string([]byte{byte(c)}); b {
		case "\n":
			from, into = from+`\n`, `\n`+into
		case `\`, "_":
			from, into = from+`\`+b, `\`+b+into
		default:
			from, into = from+b, b+into
		}
	}
	checkTold(t, both, "y_"+from+"_"+into+"_", "y_"+from+"_"+strings.Repeat("a", 256)+"_")
}

// P17.2: where commands are said to begin plays no part.
func TestPlaces(t *testing.T) {
	for _, script := range scripts() {
		p := mustParse(t, script, false)
		want := mustText(t, p, false)
		for _, at := range []int{math.MinInt, -1, 0, 1, 4096, math.MaxInt} {
			for i := range p.Cmds {
				p.Cmds[i].At = at - i
			}
			if got := mustText(t, p, false); got != want {
				t.Errorf("%q at %d: %q, not %q", script, at, got, want)
			}
		}
	}
}

// rich has something of all.
const rich = "#n\n/a/,$!{s,x\\,y,[&\\n],3gpwout\n};y/a\\nb/123/;:top\n2q7\n$a\\\n one\\\ntwo\nbtop\nt;l;l0;wout\nrin;1\n\\;b/;=;s//\\1/wlog\ns/c/d/w/dev/stdout"

// scripts are basic ones of all sorts.
func scripts() []string {
	return []string{
		"", "#n", "p", "#n\np", "{p;{d}};=", "s,a/b,[/&],2gpw out", "y,/a\\n,b/\\,,", "s|/\\||\\|/|", "1,$!{/x/,\\,y/,s//z/}",
		"a\\\none\\\ntwo\\\\\ni\\\n\nc\\\nx", ":top\nt top\nb\nr in\nw /dev/stdout\nl 3\nq 9", "s/a\\/b/c\\\nd/3w log", rich,
		"#n\n/a/,$!{ s,x\\,y,[&],3gw out\n}; y/a\\nb/123/ ;:top\n2q 7\n$ a \\\n one\\\ntwo\nbtop\nt;l;l 0;w out\nr in;1\n\\;b;=#end",
		"1,3!s/a/[&]/2p", "1!G;h;$!d", "$!N;P;D", "s/a*/x/g",
	}
}

// P17.2: scripts of the chapters and of their tests, told again and parsed.
func TestScripts(t *testing.T) {
	for _, script := range scripts() {
		if toldAgain(t, script) == 0 {
			t.Errorf("%q isn't right", script)
		}
	}
	checkTold(t, basic, rich)
	checkTold(t, extended, "s/(a|b)/x/", "s/(a)|b/\\1/")
}

// P17.2: what Text tells of the program of what it told is that again.
func TestTwice(t *testing.T) {
	for _, script := range scripts() {
		one := mustText(t, mustParse(t, script, false), false)
		if two := mustText(t, mustParse(t, one, false), false); two != one {
			t.Errorf("%q, then %q", one, two)
		}
	}
}

// behindEach puts an element behind the end of each list of a program, in its memory.
func behindEach(p *api.Program) {
	longer := func(b []byte) []byte { return append(bytes.Clone(b), `\`...)[:len(b)] }
	for i := range p.Cmds {
		c := &p.Cmds[i]
		c.Text, c.From, c.Into = longer(c.Text), longer(c.From), longer(c.Into)
		c.Parts = append(slices.Clone(c.Parts), api.Part{Kind: 7})[:len(c.Parts)]
		for j := range c.Parts {
			c.Parts[j].B = longer(c.Parts[j].B)
		}
	}
	for i := range p.Texts {
		p.Texts[i] = longer(p.Texts[i])
		p.Res[i].Nodes = append(slices.Clone(p.Res[i].Nodes), api.Node{Kind: 77})[:len(p.Res[i].Nodes)]
	}
	p.Cmds = append(slices.Clone(p.Cmds), api.Cmd{Kind: 'k'})[:len(p.Cmds)]
	p.Texts = append(slices.Clone(p.Texts), []byte("x"))[:len(p.Texts)]
	p.Res = append(slices.Clone(p.Res), api.Re{Groups: 5})[:len(p.Res)]
	p.Names = append(slices.Clone(p.Names), "x")[:len(p.Names)]
}

// whole tells all lists of p with the element behind their end.
func whole(p api.Program) string {
	longer := func(b []byte) []byte { return b[:len(b)+1] }
	p.Cmds = slices.Clone(p.Cmds[:len(p.Cmds)+1])
	for i := range p.Cmds[:len(p.Cmds)-1] {
		c := &p.Cmds[i]
		c.Text, c.From, c.Into = longer(c.Text), longer(c.From), longer(c.Into)
		c.Parts = slices.Clone(c.Parts[:len(c.Parts)+1])
		for j := range c.Parts[:len(c.Parts)-1] {
			c.Parts[j].B = longer(c.Parts[j].B)
		}
	}
	n := len(p.Texts)
	p.Texts, p.Res = slices.Clone(p.Texts[:n+1]), slices.Clone(p.Res[:n+1])
	for i := range n {
		p.Texts[i] = longer(p.Texts[i])
		p.Res[i].Nodes = p.Res[i].Nodes[:len(p.Res[i].Nodes)+1]
	}
	p.Names = p.Names[:len(p.Names)+1]
	return seen(p)
}

// R4: what is handed in stays as it was, all that lies behind its lists' ends too; what is answered may be written over.
func TestMemory(t *testing.T) {
	for _, script := range scripts() {
		p := mustParse(t, script, false)
		want := mustText(t, p, false)
		behindEach(&p)
		was := whole(p)
		for range 3 {
			b, ok := pretty.Text(p, false)
			if !ok || string(b) != want || whole(p) != was {
				t.Fatalf("%q: %q, %v, %s", script, b, ok, whole(p))
			}
			b = b[:cap(b)]
			for i := range b {
				b[i]++
			}
			if whole(p) != was {
				t.Fatalf("%q: the answer is shared", script)
			}
		}
	}
}

// R4: nothing is kept of what was handed in.
func TestNothingKept(t *testing.T) {
	p := mustParse(t, rich, false)
	b, _ := pretty.Text(p, false)
	want := string(b)
	for i := range p.Cmds {
		c := &p.Cmds[i]
		for _, l := range [][]byte{c.Text, c.From, c.Into} {
			clear(l)
		}
		for _, part := range c.Parts {
			clear(part.B)
		}
	}
	for _, l := range p.Texts {
		clear(l)
	}
	clear(p.Cmds)
	clear(p.Names)
	if string(b) != want {
		t.Errorf("%q", b)
	}
	if got := mustText(t, mustParse(t, rich, false), false); got != want {
		t.Errorf("%q, not %q", got, want)
	}
}
