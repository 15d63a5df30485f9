package pretty

import (
	"bytes"
	"iter"
	"slices"
	"strings"

	"palinode/api"
	"palinode/digit"
	"palinode/scan"
	"palinode/swap"
)

// The standard output's name, which stands in no program's Names.
const stdOut = "/dev/stdout"

// A writer writes the script of its program. Of what the program only seems to have it writes nothing, which makes another program of it.
type writer struct {
	bytes.Buffer
	api.Program
}

// script writes all commands, or as many as make it too long.
func (w *writer) script() {
	if w.Quiet {
		w.WriteString("#n")
	}
	behind := byLetters()
	for i, c := range w.Cmds {
		if w.Len() > api.MaxScript {
			return
		}
		w.WriteString(w.gap(i))
		w.lines(c)
		w.WriteByte(c.Kind)
		if write, ok := behind[c.Kind]; ok {
			write(w, c)
		}
	}
}

// gap tells what must stand ahead of the command i.
func (w *writer) gap(i int) string {
	switch {
	case i == 0 && w.Quiet:
		return "\n"
	case i == 0:
		return ""
	case takesLine(w.Cmds[i-1]):
		return "\n"
	case w.Cmds[i-1].Kind == '{' || w.Cmds[i].Kind == '}':
		return ""
	}
	return ";"
}

// takesLine tells whether all up to a newline is the command's own.
func takesLine(c api.Cmd) bool {
	return strings.IndexByte("acir", c.Kind) >= 0 || c.File != api.NoFile
}

// lines writes for which lines the command is.
func (w *writer) lines(c api.Cmd) {
	w.address(c.One)
	if c.Two.Kind != api.ANone {
		w.WriteByte(',')
		w.address(c.Two)
	}
	if c.Not {
		w.WriteByte('!')
	}
}

func (w *writer) address(a api.Addr) {
	switch a.Kind {
	case api.ALine:
		w.WriteString(digit.Text(a.N))
	case api.ALast:
		w.WriteByte('$')
	case api.ARe:
		text := w.regex(a.Re)
		w.shortest(text, func(delim byte) []byte {
			b := between(delim, text)
			if delim == '/' {
				return b
			}
			return slices.Concat([]byte{'\\'}, b)
		})
	}
}

// regex tells the bytes of the regular expression of the number n; that of the last one has none.
func (w *writer) regex(n int) []byte {
	if n < 0 || n >= len(w.Texts) {
		return nil
	}
	return w.Texts[n]
}

// shortest writes the shortest of what is told with each delimiter that can stand behind that regular expression; nothing, if none can.
func (w *writer) shortest(regex []byte, told func(delim byte) []byte) {
	var best []byte
	for delim := range delims(regex) {
		if b := told(delim); best == nil || len(b) < len(best) {
			best = b
		}
	}
	w.Write(best)
}

// delims yields each delimiter up to which all of b is read, if it stands behind b; first the one that needs no \ ahead of an address, then from there round all bytes.
func delims(b []byte) iter.Seq[byte] {
	return func(yield func(byte) bool) {
		for i := range 256 {
			delim := '/' + byte(i)
			if scan.IsDelim(delim) && ends(b, delim) && !yield(delim) {
				return
			}
		}
	}
}

func ends(b []byte, delim byte) bool {
	all, e := followed(b, delim).Until(delim)
	return e == api.OK && len(all) == len(b)
}

// followed tells a cursor over b and a delimiter behind it.
func followed(b []byte, delim byte) *scan.Cursor {
	return scan.Open(slices.Concat(b, []byte{delim}))
}

// between tells the parts, each up to the delimiter, which stands ahead of all too.
func between(delim byte, parts ...[]byte) []byte {
	b := []byte{delim}
	for _, part := range parts {
		b = append(b, part...)
		b = append(b, delim)
	}
	return b
}

// byLetters tells what writes what stands behind a letter, if anything does.
func byLetters() map[byte]func(*writer, api.Cmd) {
	return map[byte]func(*writer, api.Cmd){
		':': (*writer).label,
		'b': (*writer).label,
		't': (*writer).label,
		'a': (*writer).text,
		'c': (*writer).text,
		'i': (*writer).text,
		'l': (*writer).fold,
		'q': (*writer).exit,
		'r': (*writer).source,
		'w': (*writer).file,
		's': (*writer).swap,
		'y': (*writer).rows,
	}
}

func (w *writer) label(c api.Cmd) { w.WriteString(c.Label) }

func (w *writer) text(c api.Cmd) {
	w.WriteString("\\\n")
	w.Write(escaped(bytes.TrimSuffix(c.Text, []byte("\n")), "\\\n"))
}

// escaped tells b with a \ ahead of each of these bytes.
func escaped(b []byte, any string) []byte {
	var l []byte
	for _, c := range b {
		if strings.IndexByte(any, c) >= 0 {
			l = append(l, '\\')
		}
		l = append(l, c)
	}
	return l
}

func (w *writer) fold(c api.Cmd) { w.number(c.Code, api.FoldAt) }

func (w *writer) exit(c api.Cmd) { w.number(c.Code, 0) }

// number writes n, unless it is what it is where none stands.
func (w *writer) number(n, none int) {
	if n != none {
		w.WriteString(digit.Text(n))
	}
}

func (w *writer) source(c api.Cmd) { w.Write(c.Text) }

func (w *writer) file(c api.Cmd) {
	switch {
	case c.File == api.StdOut:
		w.WriteString(stdOut)
	case c.File >= 0 && c.File < len(w.Names):
		w.WriteString(w.Names[c.File])
	}
}

func (w *writer) swap(c api.Cmd) {
	text, parts := w.regex(c.Re), swap.Text(c.Parts)
	w.shortest(text, func(delim byte) []byte {
		return between(delim, text, kept(parts, delim))
	})
	w.flags(c)
}

// kept tells a replacement with a \ ahead of each delimiter that none takes along.
func kept(parts []byte, delim byte) []byte {
	c := followed(parts, delim)
	var l [][]byte
	for piece, e := c.Until(delim); e == api.OK; piece, e = c.Until(delim) {
		l = append(l, piece)
	}
	return bytes.Join(l, []byte{'\\', delim})
}

func (w *writer) flags(c api.Cmd) {
	if c.All {
		w.WriteByte('g')
	}
	if c.Print {
		w.WriteByte('p')
	}
	w.number(c.Nth, 1)
	if c.File != api.NoFile {
		w.WriteByte('w')
		w.file(c)
	}
}

func (w *writer) rows(c api.Cmd) {
	w.shortest(nil, func(delim byte) []byte {
		return between(delim, row(c.From, delim), row(c.Into, delim))
	})
}

// row tells a row of y, in which a newline has a letter of its own.
func row(b []byte, delim byte) []byte {
	b = escaped(b, string([]byte{'\\', '\n', delim}))
	return bytes.ReplaceAll(b, []byte("\\\n"), []byte(`\n`))
}
