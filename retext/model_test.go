package retext_test

import (
	"strconv"
	"strings"
	"testing"

	"palinode/api"
	"palinode/brack"
	"palinode/bre"
	"palinode/ere"
	"palinode/retext"
	"palinode/tree"
)

// A walk goes from the whole of a tree down to its parts, as the words of chapters 8 and 9 say what a text is made of; it counts which node and which group would be the next to be put.
type walk struct {
	re       api.Re
	extended bool
	node     int
	group    int
	ended    map[int]bool
}

// hasText tells by the chapters' words whether there is a text of re.
func hasText(re api.Re, extended bool) bool {
	if !tree.Right(re) {
		return false
	}
	w := walk{re: re, extended: extended, ended: map[int]bool{}}
	return w.whole(len(re.Nodes)-1, false) && w.node == len(re.Nodes)
}

// puts tells whether the node at that number would be the next.
func (w *walk) puts(number int) bool {
	w.node++
	return number == w.node-1
}

// row tells what the node at that number puts together from the left, and the numbers of the nodes that do so.
func (w *walk) row(kind, number int) (parts, nodes []int) {
	n := w.re.Nodes[number]
	if n.Kind != kind {
		return []int{number}, nil
	}
	parts, nodes = w.row(kind, n.A)
	return append(parts, n.B), append(nodes, number)
}

func (w *walk) allPut(nodes []int) bool {
	for _, n := range nodes {
		if !w.puts(n) {
			return false
		}
	}
	return true
}

// whole walks what can be a whole text, or what stands within a group.
func (w *walk) whole(number int, inGroup bool) bool {
	if w.re.Nodes[number].Kind == api.NEmpty {
		return !(w.extended && inGroup) && w.puts(number)
	}
	if !w.extended {
		return w.branch(number)
	}
	branches, nodes := w.row(api.NAlt, number)
	for _, b := range branches {
		if !w.branch(b) {
			return false
		}
	}
	return w.allPut(nodes)
}

func (w *walk) branch(number int) bool {
	pieces, nodes := w.row(api.NCat, number)
	for i, p := range pieces {
		if !w.piece(p, i == 0, i == len(pieces)-1) {
			return false
		}
	}
	return w.allPut(nodes)
}

func (w *walk) piece(number int, first, last bool) bool {
	switch w.re.Nodes[number].Kind {
	case api.NBol:
		return (w.extended || first) && w.puts(number)
	case api.NEol:
		return (w.extended || last) && w.puts(number)
	}
	return w.repeated(number)
}

func (w *walk) repeated(number int) bool {
	n := w.re.Nodes[number]
	switch n.Kind {
	case api.NRep:
		return w.repeated(n.A) && w.puts(number)
	case api.NSet:
		return w.puts(number)
	case api.NBack:
		return w.ended[n.Group] && w.puts(number)
	case api.NGroup:
		w.group++
		if n.Group != w.group || !w.whole(n.A, true) {
			return false
		}
		w.ended[n.Group] = true
		return w.puts(number)
	}
	return false
}

// treeText tells re on a line: a node is its letter, its parts and its numbers.
func treeText(re api.Re) string {
	if len(re.Nodes) > 40 {
		return strconv.Itoa(len(re.Nodes)) + " nodes"
	}
	var l []string
	for _, n := range re.Nodes {
		a, b, g := strconv.Itoa(n.A), strconv.Itoa(n.B), strconv.Itoa(n.Group)
		switch n.Kind {
		case api.NEmpty:
			l = append(l, "E")
		case api.NSet:
			l = append(l, string(brack.Text(n.Set)))
		case api.NCat:
			l = append(l, "C"+a+","+b)
		case api.NAlt:
			l = append(l, "A"+a+","+b)
		case api.NRep:
			l = append(l, "R"+a+"{"+strconv.Itoa(n.Lo)+","+strconv.Itoa(n.Hi)+"}")
		case api.NGroup:
			l = append(l, "G"+g+":"+a)
		case api.NBack:
			l = append(l, "B"+g)
		case api.NBol:
			l = append(l, "^")
		case api.NEol:
			l = append(l, "$")
		default:
			l = append(l, "?"+strconv.Itoa(n.Kind))
		}
	}
	return strings.Join(l, " ") + ", groups: " + strconv.Itoa(re.Groups)
}

// kindName tells the kind that extended says.
func kindName(extended bool) string {
	if extended {
		return "extended"
	}
	return "basic"
}

// parse is the Parse of the layer that reads texts of that kind, without the package that is tested.
func parse(b []byte, extended bool) (api.Re, int, api.Errno) {
	if extended {
		return ere.Parse(b)
	}
	return bre.Parse(b)
}

// likeModel asks Text of re, of either kind, for one where the walk tells that there is one, and that it is one; it tells which kinds have one.
func likeModel(t *testing.T, re api.Re) (basic, extended bool) {
	t.Helper()
	return likeModelOf(t, re, false), likeModelOf(t, re, true)
}

func likeModelOf(t *testing.T, re api.Re, extended bool) bool {
	t.Helper()
	b, ok := retext.Text(re, extended)
	if want := hasText(re, extended); ok != want {
		t.Fatalf("%s, %s: %.999q, %v; want %v", treeText(re), kindName(extended), b, ok, want)
	}
	if !ok {
		if len(b) != 0 {
			t.Fatalf("%s, %s: %.999q beside false", treeText(re), kindName(extended), b)
		}
		return false
	}
	if again, at, e := parse(b, extended); e != api.OK || at != 0 || !tree.Same(again, re) {
		t.Fatalf("%s, %s: %.999q is %s, %d, %v", treeText(re), kindName(extended), b, treeText(again), at, e)
	}
	return true
}
