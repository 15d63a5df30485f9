package pretty_test

import (
	"math"
	"runtime"
	"slices"
	"strconv"
	"strings"
	"testing"

	"palinode/api"
	"palinode/pretty"
	"palinode/retext"
)

// checkNone changes the program of a script, as each of these says, into one that no script says.
func checkNone(t *testing.T, script string, changes ...func(p *api.Program)) {
	t.Helper()
	for i, change := range changes {
		for _, extended := range both {
			p := mustParse(t, script, extended)
			mustText(t, p, extended)
			change(&p)
			if b, ok := ask(t, p, extended); ok || len(b) > 0 {
				t.Errorf("%q, changed by %d, %v: %q, %v", script, i, extended, b, ok)
			}
			p.Quiet = !p.Quiet
			if b, ok := ask(t, p, extended); ok {
				t.Errorf("%q, changed by %d, %v: %q", script, i, extended, b)
			}
		}
	}
}

// ofCmd tells functions that change the command i, one each number.
func ofCmd(i int, set func(c *api.Cmd, n int), numbers ...int) []func(p *api.Program) {
	var l []func(p *api.Program)
	for _, n := range numbers {
		l = append(l, func(p *api.Program) { set(&p.Cmds[i], n) })
	}
	return l
}

// P17.1: a letter that is none.
func TestNoLetter(t *testing.T) {
	for c := range 256 {
		if among("{}=dDgGhHnNpPx:btacilqrwsy", byte(c)) {
			continue
		}
		setKind := func(c *api.Cmd, n int) { c.Kind = byte(n) }
		for _, script := range []string{"p", "1p", "$!p", "//p", "{p}", "a\\\nx", "s/a/b/", "b", "y/a/b/", "rf", "wf", "l3"} {
			checkNone(t, script, ofCmd(0, setKind, c)...)
		}
		checkNone(t, "d;p;x", ofCmd(1, setKind, c)...)
		checkNone(t, "d;p;x", ofCmd(2, setKind, c)...)
	}
}

// P17.1: numbers of commands that are those of others, or of none.
func TestNoTarget(t *testing.T) {
	setTo := func(c *api.Cmd, n int) { c.To = n }
	checkNone(t, "p;bx;d;:x;g", ofCmd(1, setTo, -1, 0, 1, 2, 4, 5, 6, math.MinInt, math.MaxInt)...)
	checkNone(t, ":x;p;tx;d", ofCmd(2, setTo, -1, 1, 2, 3, 4, 1<<32)...)
	checkNone(t, ":x;p;b;d", ofCmd(2, setTo, 0, 1, 2, 3, 5, -1)...)
	checkNone(t, "t", ofCmd(0, setTo, 0, 2, -1)...)
	checkNone(t, "p;{d;{x}};g", ofCmd(1, setTo, 0, 1, 2, 3, 4, 5, 7, 8, -1)...)
	checkNone(t, "p;{d;{x}};g", ofCmd(3, setTo, 0, 3, 4, 6)...)
	checkNone(t, "{};{}", ofCmd(0, setTo, 0, 2, 3, 4, -1)...)
	checkNone(t, "{};{}", ofCmd(2, setTo, 0, 1, 2, 4)...)
	for _, script := range []string{"p", "1!=", ":x", "a\\\nx", "l", "q7", "rf", "wf", "s/a/b/", "y/a/b/"} {
		checkNone(t, script, ofCmd(0, setTo, 1, -1)...)
	}
	checkNone(t, "{}", ofCmd(1, setTo, 1, 2)...)
	checkNone(t, "bx;:x", func(p *api.Program) { p.Cmds[0].Label = "y" }, func(p *api.Program) { p.Cmds[0].Label = "" },
		func(p *api.Program) { p.Cmds[1].Label = "y" }, func(p *api.Program) { p.Cmds = p.Cmds[:1] },
		func(p *api.Program) { p.Cmds[0].Label, p.Cmds[0].To = "y", 2 })
}

// P17.1: blocks without an end, ends without a block.
func TestNoBlock(t *testing.T) {
	file := api.NoFile
	begin, end, p := api.Cmd{Kind: '{', File: file}, api.Cmd{Kind: '}', File: file}, api.Cmd{Kind: 'p', File: file}
	to := func(n int) api.Cmd {
		c := begin
		c.To = n
		return c
	}
	for _, cmds := range [][]api.Cmd{
		{begin}, {end}, {to(1)}, {p, end}, {to(2), p}, {end, begin}, {end, to(0)}, {to(1), end, end}, {to(2), to(2), end}, {to(3), to(2), end}, {to(2), end, p},
		{to(2), to(3), end, end}, {to(3), to(3), end, end}, {to(2), to(2), end, end}, {to(1), p, end}, {p, to(1), end},
	} {
		for _, extended := range both {
			if b, ok := ask(t, api.Program{Cmds: cmds}, extended); ok {
				t.Errorf("%s: %q", seen(cmds), b)
			}
		}
	}
	if got := mustText(t, api.Program{Cmds: []api.Cmd{to(3), to(2), end, end}}, false); got != "{{}}" {
		t.Errorf("%q", got)
	}
	checkNone(t, "{p}", func(p *api.Program) { p.Cmds[2].Not = true }, func(p *api.Program) { p.Cmds[2].One.Kind = api.ALast })
}

// P17.1: labels that are none, or that two commands have.
func TestNoLabel(t *testing.T) {
	labels := []string{"", "a b", " a", "a ", "a;", "a\n", "-", "a#", "a}", "\x00", "é", "\xff", word16 + "7", strings.Repeat("a", 5000), "a;p", "p\n:a"}
	for _, label := range labels {
		set := func(p *api.Program) { p.Cmds[0].Label = label }
		checkNone(t, ":x", set)
		checkNone(t, ":x;p", set)
		checkNone(t, "bx;:x", set, func(p *api.Program) { p.Cmds[0].Label, p.Cmds[1].Label = label, label })
		checkNone(t, "tx\n:x", set)
	}
	checkNone(t, ":x;:y", func(p *api.Program) { p.Cmds[1].Label = "x" }, func(p *api.Program) { p.Cmds[0].Label = "y" })
	checkNone(t, ":x;:y;bx", func(p *api.Program) { p.Cmds[1].Label = "x" }, func(p *api.Program) { p.Cmds[2].To = 1 }, func(p *api.Program) { p.Cmds[2].Label = "y" })
}

// cmdFields are functions that each give a command one thing more than it has, which is zero else.
func cmdFields() map[string]func(c *api.Cmd) {
	return map[string]func(c *api.Cmd){
		"To":    func(c *api.Cmd) { c.To += 7 },
		"Text":  func(c *api.Cmd) { c.Text = []byte("x\n") },
		"Name":  func(c *api.Cmd) { c.Text = []byte("f") },
		"Label": func(c *api.Cmd) { c.Label = "z" },
		"Re":    func(c *api.Cmd) { c.Re = api.LastRe },
		"Re1":   func(c *api.Cmd) { c.Re = 1 },
		"Parts": func(c *api.Cmd) { c.Parts = []api.Part{{B: []byte("b")}} },
		"Group": func(c *api.Cmd) { c.Parts = []api.Part{{Kind: api.PGroup}} },
		"All":   func(c *api.Cmd) { c.All = true },
		"Print": func(c *api.Cmd) { c.Print = true },
		"Nth":   func(c *api.Cmd) { c.Nth = 1 },
		"File":  func(c *api.Cmd) { c.File = 0 },
		"Out":   func(c *api.Cmd) { c.File = api.StdOut },
		"Code":  func(c *api.Cmd) { c.Code += 300 },
		"From":  func(c *api.Cmd) { c.From = []byte("a") },
		"Into":  func(c *api.Cmd) { c.Into = []byte("a") },
		"Rows":  func(c *api.Cmd) { c.From, c.Into = []byte("a"), []byte("b") },
	}
}

// P17.1: a field that the letter does not have, and that is not zero.
func TestNoSuchField(t *testing.T) {
	has := map[byte]string{':': "Label", 'a': "Text", 'c': "Text", 'i': "Text", 'r': "Name", 'w': "File Out", 's': "Re Parts Group All Print Nth File Out", 'y': "From Into Rows"}
	for _, tail := range tails() {
		for name, change := range cmdFields() {
			if slices.Contains(strings.Fields(has[tail[0]]), name) {
				continue
			}
			checkNone(t, tail, func(p *api.Program) { change(&p.Cmds[0]) })
			checkNone(t, "d;"+tail, func(p *api.Program) { change(&p.Cmds[1]) })
		}
	}
	for _, script := range []string{"d", "{}"} {
		checkNone(t, script, func(p *api.Program) { p.Cmds[len(p.Cmds)-1].File = 0 }, func(p *api.Program) { p.Cmds[0].Code = 70 }, func(p *api.Program) { p.Cmds[0].Nth = -1 },
			func(p *api.Program) { p.Cmds[0].File, p.Names = 0, []string{"f"} })
	}
}

// P17.1: numbers out of bounds.
func TestNoNumber(t *testing.T) {
	setCode := func(c *api.Cmd, n int) { c.Code = n }
	for _, script := range []string{"l", "q", "l3", "q3", "1q", "1,2l"} {
		checkNone(t, script, ofCmd(0, setCode, -1, 256, 257, -70, 1000, 1<<32, 1<<32+70, math.MinInt, math.MaxInt)...)
	}
	setNth := func(c *api.Cmd, n int) { c.Nth = n }
	for _, script := range []string{"s/a/b/", "s//b/gp", "s/a/b/2wf", "1!s/a//3"} {
		checkNone(t, script, ofCmd(0, setNth, -1, 0, 513, 514, 1000, 1<<32+1, math.MinInt, math.MaxInt)...)
	}
	setLine := func(c *api.Cmd, n int) { c.One.N = n }
	checkNone(t, "1p", ofCmd(0, setLine, -1, 1<<31+1, 1<<32, 1<<32+1, math.MinInt, math.MaxInt)...)
	checkNone(t, "1,$!{}", ofCmd(0, setLine, -1, 1<<31+1, math.MaxInt)...)
	checkNone(t, "1,2p", ofCmd(0, func(c *api.Cmd, n int) { c.Two.N = n }, -1, 1<<31+1, math.MinInt, math.MaxInt)...)
}

// P17.1: addresses that are none, or that have more than their kind has.
func TestNoAddress(t *testing.T) {
	for _, script := range []string{"p", "1p", "$p", "/a/p", "//p", "1,2p", "$,$p", "/a/,/b/p", "//,//p", "1!p"} {
		checkNone(t, script,
			func(p *api.Program) { p.Cmds[0].One.Kind = -1 },
			func(p *api.Program) { p.Cmds[0].One.Kind = 4 },
			func(p *api.Program) { p.Cmds[0].One.Kind = math.MaxInt },
			func(p *api.Program) { p.Cmds[0].Two.Kind = -1 },
			func(p *api.Program) { p.Cmds[0].Two.Kind = 4 },
			func(p *api.Program) { p.Cmds[0].One.Re -= 2 },
			func(p *api.Program) { p.Cmds[0].One.Re += 2 },
			func(p *api.Program) { p.Cmds[0].Two.Re -= 2 },
			func(p *api.Program) { p.Cmds[0].Two.Re += 2 },
			func(p *api.Program) { p.Cmds[0].One.N = -1 },
			func(p *api.Program) { p.Cmds[0].Two.N = -1 },
			func(p *api.Program) { p.Cmds[0].One, p.Cmds[0].Two = api.Addr{}, api.Addr{Kind: api.ALine, N: 2} },
			func(p *api.Program) { p.Cmds[0].One, p.Cmds[0].Two = api.Addr{}, api.Addr{Kind: api.ALast} },
			func(p *api.Program) {
				p.Cmds[0].One, p.Cmds[0].Two = api.Addr{}, api.Addr{Kind: api.ARe, Re: api.LastRe}
			},
		)
	}
	setN := func(c *api.Cmd, n int) { c.One.N = n }
	checkNone(t, "p", ofCmd(0, setN, 1, -1)...)
	checkNone(t, "$p", ofCmd(0, setN, 1, -1)...)
	checkNone(t, "//p", ofCmd(0, setN, 1, -1)...)
	checkNone(t, "/a/p", ofCmd(0, setN, 1, -1)...)
	setRe := func(c *api.Cmd, n int) { c.One.Re = n }
	checkNone(t, "p", ofCmd(0, setRe, 1, -1)...)
	checkNone(t, "$p", ofCmd(0, setRe, 1, -1)...)
	checkNone(t, "1p", ofCmd(0, setRe, 1, -1)...)
}

// P17.1: numbers of regular expressions that aren't there, or that a script would not give.
func TestNoRegexNumber(t *testing.T) {
	setOne := func(c *api.Cmd, n int) { c.One.Re = n }
	setTwo := func(c *api.Cmd, n int) { c.Two.Re = n }
	setRe := func(c *api.Cmd, n int) { c.Re = n }
	odd := []int{-2, -3, 3, 4, 1 << 32, math.MinInt, math.MaxInt}
	script := "/a/,/b/s/c/d/"
	checkNone(t, script, ofCmd(0, setOne, append(odd, -1, 1, 2)...)...)
	checkNone(t, script, ofCmd(0, setTwo, append(odd, -1, 0, 2)...)...)
	checkNone(t, script, ofCmd(0, setRe, append(odd, -1, 0, 1)...)...)
	checkNone(t, "//,//s//d/", ofCmd(0, setOne, append(odd, 0, 1)...)...)
	checkNone(t, "//,//s//d/", ofCmd(0, setTwo, append(odd, 0, 1)...)...)
	checkNone(t, "//,//s//d/", ofCmd(0, setRe, append(odd, 0, 1)...)...)
	checkNone(t, "/a/p;/a/d",
		func(p *api.Program) { p.Cmds[0].One, p.Cmds[1].One = p.Cmds[1].One, p.Cmds[0].One },
		func(p *api.Program) { p.Cmds[0], p.Cmds[1] = p.Cmds[1], p.Cmds[0] },
		func(p *api.Program) { p.Cmds[1].One.Re = 0 },
		func(p *api.Program) { p.Cmds[0].One.Re = 1 },
		func(p *api.Program) { p.Cmds[0].One.Re, p.Cmds[1].One.Re = 1, 2 },
	)
}

// P17.1: regular expressions that no command has, that aren't right, or whose bytes aren't theirs.
func TestNoRegex(t *testing.T) {
	a, _, _ := retext.Parse([]byte("a"), false)
	setText := func(s string) func(p *api.Program) { return func(p *api.Program) { p.Texts[0] = []byte(s) } }
	for _, script := range []string{"p", "//p", "/a/p", "/a/,$s/b/c/", "{s/a/b/\n}"} {
		checkNone(t, script,
			func(p *api.Program) { p.Res = append(p.Res, a) },
			func(p *api.Program) { p.Texts = append(p.Texts, []byte("a")) },
			func(p *api.Program) { p.Texts = append(p.Texts, nil) },
			func(p *api.Program) { p.Res = append(p.Res, api.Re{}) },
			func(p *api.Program) { p.Res, p.Texts = append(p.Res, a), append(p.Texts, []byte("a")) },
			func(p *api.Program) {
				p.Res, p.Texts = append([]api.Re{a}, p.Res...), append([][]byte{[]byte("a")}, p.Texts...)
			},
		)
	}
	for _, script := range []string{"/a/p", "1,/a/d", "s/a/b/", "/a/s//b/", "/a/,/b/p;x"} {
		checkNone(t, script,
			func(p *api.Program) { p.Res = p.Res[1:] },
			func(p *api.Program) { p.Texts = p.Texts[1:] },
			func(p *api.Program) { p.Res, p.Texts = nil, nil },
			func(p *api.Program) { p.Res[0] = api.Re{} },
			func(p *api.Program) { p.Res[0].Groups = 1 },
			func(p *api.Program) { p.Res[0].Groups = -1 },
			func(p *api.Program) { p.Res[0].Nodes = append(p.Res[0].Nodes, p.Res[0].Nodes...) },
			func(p *api.Program) { p.Res[0].Nodes[0].A = 1 },
			func(p *api.Program) { p.Res[0].Nodes[0].Kind = api.NBol },
			func(p *api.Program) { p.Res[0].Nodes[0].Kind = 99 },
			func(p *api.Program) { p.Res[0].Nodes[0].Set[0] = 1 },
			setText(""), setText("b"), setText("aa"), setText(`\a`), setText("a/"), setText("[a"), setText("a\n"), setText(`a\`), setText("/"), setText("a*"), setText("/p;/a"),
		)
	}
	checkNone(t, "/[a]/p", setText("a/,/a"), func(p *api.Program) { p.Res[0].Nodes[0].Set[3] = 1 })
	for _, extended := range both {
		p := mustParse(t, "/a/p;s/b/c/", extended)
		for _, text := range []string{"[a]", "[[.a.]]", "[[=a=]]"} {
			p.Texts[0] = []byte(text)
			mustText(t, p, extended)
		}
		if b, ok := ask(t, p, extended); !ok || !strings.Contains(string(b), "[[=a=]]") {
			t.Errorf("%q", b)
		}
	}
	newline, _, _ := retext.Parse([]byte("[\n]"), false)
	checkNone(t, "/a/p", func(p *api.Program) { p.Res[0], p.Texts[0] = newline, []byte("[\n]") }, func(p *api.Program) { p.Res[0], p.Texts[0] = newline, []byte("\n") })
	empty, _, _ := retext.Parse(nil, true)
	checkNone(t, "/a/p", func(p *api.Program) { p.Res[0], p.Texts[0] = empty, nil })
}

// P17.1: texts of a, c and i that end without a newline, or aren't there.
func TestNoText(t *testing.T) {
	for _, script := range []string{"a\\\nx", "1c\\\n", "i\\\n\\\n\np"} {
		for _, text := range []string{"", "x", "x\ny", "\nx", `\`, "\n\\", "x\n ", "\n\x00"} {
			checkNone(t, script, func(p *api.Program) { p.Cmds[0].Text = []byte(text) })
		}
	}
}

// P17.1: names that are none, that no command has, or that a script would not give that place.
func TestNoName(t *testing.T) {
	for _, name := range []string{"", " ", "a b", " a", "a ", "a\n", "a\np", "\x7f", "\x00", "é", strings.Repeat("a", 65), strings.Repeat("a", 5000)} {
		checkNone(t, "rf", func(p *api.Program) { p.Cmds[0].Text = []byte(name) })
		checkNone(t, "$!rf\np", func(p *api.Program) { p.Cmds[0].Text = []byte(name) })
		for _, script := range []string{"wf", "wf\np", "s/a/b/wf", "wf\nwf", "we\nwf"} {
			checkNone(t, script, func(p *api.Program) { p.Names[0] = name }, func(p *api.Program) { p.Names[len(p.Names)-1] = name })
		}
		checkNone(t, "wf\np", func(p *api.Program) { p.Names = append(p.Names, name) }, func(p *api.Program) { p.Names = append([]string{name}, p.Names...) })
	}
	for _, script := range []string{"p", "wf", "s///wf", "w/dev/stdout", "rg", "wf\nw/dev/stdout"} {
		checkNone(t, script,
			func(p *api.Program) { p.Names = append(p.Names, "g") },
			func(p *api.Program) { p.Names = append(p.Names, "f") },
			func(p *api.Program) { p.Names = append(p.Names, stdout) },
			func(p *api.Program) { p.Names = append([]string{"g"}, p.Names...) },
		)
	}
	for _, script := range []string{"wf", "1!wf\np", "s///wf", "s/a/b/gwf\nwf"} {
		checkNone(t, script, func(p *api.Program) { p.Names = nil }, func(p *api.Program) { p.Names[0] = stdout })
		checkNone(t, script, ofCmd(0, func(c *api.Cmd, n int) { c.File = n }, -3, 1, 2, 16, 1<<32, math.MinInt, math.MaxInt)...)
	}
	checkNone(t, "wf", ofCmd(0, func(c *api.Cmd, n int) { c.File = n }, api.NoFile, api.StdOut)...)
	checkNone(t, "wf\nwg",
		func(p *api.Program) { p.Cmds[0].File, p.Cmds[1].File = 1, 0 },
		func(p *api.Program) { p.Cmds[1].File = 0 },
		func(p *api.Program) { p.Cmds[0].File = 1 },
		func(p *api.Program) { p.Names[1] = "f" },
		func(p *api.Program) { p.Names = p.Names[:1] },
		func(p *api.Program) { p.Cmds[0].File, p.Cmds[1].File = api.StdOut, api.StdOut },
	)
}

// P17.1: replacements that aren't as one is, or name groups that aren't there.
func TestNoParts(t *testing.T) {
	setParts := func(l ...api.Part) func(p *api.Program) {
		return func(p *api.Program) { p.Cmds[len(p.Cmds)-1].Parts = l }
	}
	text, whole := func(s string) api.Part { return api.Part{B: []byte(s)} }, api.Part{Kind: api.PGroup}
	group := func(n int) api.Part { return api.Part{Kind: api.PGroup, Group: n} }
	for _, script := range []string{"s/a/b/", "s//b/g", "p;s/a//", "/x/s/a/b/wf"} {
		checkNone(t, script,
			setParts(text("")), setParts(text("a"), text("b")), setParts(whole, text("")), setParts(text(""), whole), setParts(whole, text("a"), text("b")),
			setParts(group(-1)), setParts(group(10)), setParts(whole, group(math.MaxInt)), setParts(group(math.MinInt)),
			setParts(api.Part{Kind: 2}), setParts(api.Part{Kind: -1, B: []byte("a")}), setParts(text("a"), api.Part{Kind: 2, B: []byte("b")}),
			setParts(api.Part{Group: 1, B: []byte("a")}), setParts(api.Part{Kind: api.PGroup, B: []byte("a")}), setParts(whole, api.Part{Group: -1, B: []byte("a")}),
			setParts(text(strings.Repeat("a", 4096))), setParts(text(strings.Repeat("&", 2100))), setParts(text(strings.Repeat(delims, 240))),
		)
	}
	checkNone(t, "s/a/b/", setParts(group(1)), setParts(whole, group(9)), setParts(text("x"), group(2)))
	for n := 1; n <= 9; n++ {
		p := mustParse(t, "s//b/", false)
		p.Cmds[0].Parts = []api.Part{group(n), text("x\n"), whole}
		mustText(t, p, false)
		for groups := range 10 {
			p := mustParse(t, "s/x"+strings.Repeat("(a)", groups)+"/b/", true)
			p.Cmds[0].Parts = []api.Part{group(n)}
			if b, ok := ask(t, p, true); ok != (n <= groups) {
				t.Errorf("the group %d of %d: %q, %v", n, groups, b, ok)
			}
		}
	}
}

// P17.1: rows of y that are no pair.
func TestNoRows(t *testing.T) {
	for _, rows := range [][2]string{{"a", ""}, {"", "a"}, {"ab", "c"}, {"a", "bc"}, {"aa", "bc"}, {"aba", "xyz"}, {"\n\n", "ab"}, {`\\`, "ab"}, {"//", "ab"}, {"\xff\xff", "ab"}, {"ab", strings.Repeat("a", 5000)}} {
		for _, script := range []string{"y/a/b/", "1,2!y/ab/cd/;p", "y///"} {
			checkNone(t, script, func(p *api.Program) { p.Cmds[0].From, p.Cmds[0].Into = []byte(rows[0]), []byte(rows[1]) })
		}
	}
	all := make([]byte, 256)
	for i := range all {
		all[i] = byte(i)
	}
	checkNone(t, "y/a/b/", func(p *api.Program) { p.Cmds[0].From, p.Cmds[0].Into = append(all, 'a'), append(all, 'b') })
}

// P17.1: an address or a ! where none may be.
func TestNotForLines(t *testing.T) {
	one, two := api.Addr{Kind: api.ALine, N: 1}, api.Addr{Kind: api.ALast}
	for _, tail := range []string{":x", "{p}", "{}"} {
		at := 0
		if tail[0] == '{' {
			at = strings.IndexByte(tail, '}')
		}
		checkNone(t, tail,
			func(p *api.Program) { p.Cmds[at].Not = true },
			func(p *api.Program) { p.Cmds[at].One = one },
			func(p *api.Program) { p.Cmds[at].One, p.Cmds[at].Two = one, two },
			func(p *api.Program) { p.Cmds[at].Two = two },
		)
	}
	for _, script := range []string{"1a\\\nx", "1i\\\nx", "1q", "1q5", "1rf", "1=", "$!="} {
		checkNone(t, script, func(p *api.Program) { p.Cmds[0].Two = one }, func(p *api.Program) { p.Cmds[0].Two = two },
			func(p *api.Program) { p.Cmds[0].Two = api.Addr{Kind: api.ARe, Re: api.LastRe} })
	}
}

// P17.1: programs of which no script is short enough, though none of their parts is long.
func TestTooLong(t *testing.T) {
	long := func(n int) string { return strings.Repeat("x", n) }
	for _, x := range []struct {
		most int
		of   func(n int) string
	}{
		{4096, func(n int) string { return "a\\\n" + long(n-3) }},
		{4096, func(n int) string { return "a\\\n" + long(2000) + "\ni\\\n" + long(n-2007) }},
		{4096, func(n int) string { return "s//" + long(n-4) + "/" }},
		{4096, func(n int) string { return "/[" + long(n-5) + "]/p" }},
		{4096, func(n int) string { return "s,[/" + long(n-7) + "],," }},
		{4096, func(n int) string { return "s,/,/" + long(n-6) + "," }},
		{4096, func(n int) string { return "s//" + strings.Repeat("&x", (n-4)/2) + "&&"[:n%2] + "/" }},
		{4096, func(n int) string { return "#n\np;{s//&" + long(n-12) + "/}" }},
		{4096, func(n int) string { return strings.Repeat("r"+long(64)+"\n", 61) + "a\\\n" + long(n-61*66-3) }},
		{4096, func(n int) string {
			return strings.Repeat("wf\n", 100) + strings.Repeat("b"+word16+";", 90) + ":" + word16 + "\ni\\\n" + long(n-300-90*18-18-3)
		}},
	} {
		for n := x.most - 3; n < x.most+4; n++ {
			p := mustParse(t, x.of(min(n, x.most)), false)
			if n > x.most {
				lengthen(&p, n-x.most)
			}
			if b, ok := ask(t, p, false); ok != (n <= x.most) || ok && len(b) != n {
				t.Errorf("%d: %d bytes, %v", n, len(b), ok)
			}
		}
	}
}

// lengthen puts so many bytes to where a program has most.
func lengthen(p *api.Program, n int) {
	more := []byte(strings.Repeat("x", n))
	if len(p.Texts) == 1 && len(p.Texts[0]) > 1000 {
		p.Texts[0] = slices.Insert(p.Texts[0], 2, more...)
		return
	}
	for i := range p.Cmds {
		c := &p.Cmds[i]
		if c.Kind == 's' {
			last := len(c.Parts) - 1
			c.Parts[last].B = append(more, c.Parts[last].B...)
			return
		}
		if among("ai", c.Kind) {
			c.Text = append(more, c.Text...)
			return
		}
	}
}

// R1: what is far above a limit is refused, and nothing of that size is made.
func TestFarTooLong(t *testing.T) {
	huge := make([]byte, 1<<26)
	text := strings.Repeat("x", 1<<26)
	cmd := func(c api.Cmd) api.Program {
		var p api.Program
		for range 150 {
			p.Cmds = append(p.Cmds, c)
		}
		return p
	}
	many := make([]api.Cmd, 1<<16)
	for i := range many {
		many[i] = api.Cmd{Kind: 'p', File: api.NoFile}
	}
	parts := make([]api.Part, 1<<20)
	for i := range parts {
		parts[i] = api.Part{Kind: i % 2, B: huge[:(1-i%2)<<26]}
	}
	re := cmd(api.Cmd{Kind: 'p', One: api.Addr{Kind: api.ARe}, File: api.NoFile})
	re.Texts, re.Res = [][]byte{huge}, []api.Re{{}}
	names := cmd(api.Cmd{Kind: 'w'})
	names.Names = []string{text}
	some := cmd(api.Cmd{Kind: 'w'})
	some.Names = []string{text[:3900]}
	for i, p := range []api.Program{
		cmd(api.Cmd{Kind: 'a', Text: huge, File: api.NoFile}),
		cmd(api.Cmd{Kind: 'r', Text: huge, File: api.NoFile}),
		cmd(api.Cmd{Kind: ':', Label: text, File: api.NoFile}),
		cmd(api.Cmd{Kind: 'b', Label: text, File: api.NoFile}),
		cmd(api.Cmd{Kind: 'y', From: huge, Into: huge, File: api.NoFile}),
		cmd(api.Cmd{Kind: 's', Re: api.LastRe, Nth: 1, Parts: parts, File: api.NoFile}),
		cmd(api.Cmd{Kind: 's', Re: api.LastRe, Nth: 1, Parts: parts[:1], File: api.NoFile}),
		re, names, some,
		{Cmds: many},
		{Texts: slices.Repeat([][]byte{huge}, 1000)},
		{Names: slices.Repeat([]string{text}, 1000)},
		{Texts: make([][]byte, 1<<20), Res: make([]api.Re, 1<<20), Names: make([]string, 1<<20)},
	} {
		for _, extended := range both {
			var ahead, behind runtime.MemStats
			runtime.ReadMemStats(&ahead)
			b, ok := pretty.Text(p, extended)
			runtime.ReadMemStats(&behind)
			if ok || len(b) > 0 {
				t.Errorf("%d: %d bytes", i, len(b))
			}
			if made := behind.TotalAlloc - ahead.TotalAlloc; made > 1<<18 {
				t.Errorf("%d: %d bytes were made", i, made)
			}
		}
	}
}

// P1 and R1: programs of any parts.
func TestAny(t *testing.T) {
	x := numbers(1)
	for range 20000 {
		var p api.Program
		p.Quiet = x.Intn(2) == 0
		for range x.Intn(4) {
			c := api.Cmd{Kind: byte(x.Intn(256)), File: x.odd(), To: x.odd(), Re: x.odd(), Nth: x.odd(), Code: x.odd(), At: x.odd()}
			for range x.Intn(6) {
				x.spoil(&c)
			}
			p.Cmds = append(p.Cmds, c)
		}
		for range x.Intn(3) {
			p.Texts = append(p.Texts, x.text())
			p.Res = append(p.Res, api.Re{Groups: x.odd(), Nodes: []api.Node{{Kind: x.odd(), A: x.odd(), B: x.odd(), Lo: x.odd(), Hi: x.odd(), Group: x.odd()}}})
		}
		for range x.Intn(3) {
			p.Names = append(p.Names, string(x.text()))
		}
		ask(t, p, false)
		ask(t, p, true)
	}
	for i := range 40 {
		p := api.Program{Cmds: make([]api.Cmd, i), Res: make([]api.Re, i), Texts: make([][]byte, i), Names: make([]string, i)}
		if _, ok := ask(t, p, i%2 == 0); ok != (i == 0) {
			t.Errorf("%s zeros: %v", strconv.Itoa(i), ok)
		}
	}
}
