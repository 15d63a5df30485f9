package tree_test

import (
	"math"
	"math/big"
	"slices"
	"testing"

	"palinode/api"
	"palinode/tree"
)

// ends are numbers far below and far above all that the chapter names.
var ends = []int{math.MinInt, math.MinInt + 1, -1 << 32, -1001, -2, 1 << 32, math.MaxInt - 1, math.MaxInt}

// numbers are a row of numbers that is the same each time, and seems to have no order.
type numbers uint64

// Intn tells the next number, from 0 to n - 1.
func (x *numbers) Intn(n int) int {
	*x = *x*6364136223846793005 + 1442695040888963407
	return int(*x>>33) % n
}

func reOf(groups int, nodes ...api.Node) api.Re { return api.Re{Nodes: nodes, Groups: groups} }

func empty() api.Node            { return api.Node{Kind: api.NEmpty} }
func set(s ...uint64) api.Node   { n := api.Node{Kind: api.NSet}; copy(n.Set[:], s); return n }
func cat(a, b int) api.Node      { return api.Node{Kind: api.NCat, A: a, B: b} }
func alt(a, b int) api.Node      { return api.Node{Kind: api.NAlt, A: a, B: b} }
func rep(a, lo, hi int) api.Node { return api.Node{Kind: api.NRep, A: a, Lo: lo, Hi: hi} }
func group(g, a int) api.Node    { return api.Node{Kind: api.NGroup, A: a, Group: g} }
func back(g int) api.Node        { return api.Node{Kind: api.NBack, Group: g} }
func bol() api.Node              { return api.Node{Kind: api.NBol} }
func eol() api.Node              { return api.Node{Kind: api.NEol} }

// chainOf is a set, and repetitions of it one around the other: n nodes in all.
func chainOf(n int) api.Re {
	var re api.Re
	for i := range n {
		if i == 0 {
			re.Nodes = append(re.Nodes, set(1))
		} else {
			re.Nodes = append(re.Nodes, rep(i-1, 1, 1))
		}
	}
	return re
}

// groupsOf is a regular expression with n groups, one around the other.
func groupsOf(n int) api.Re {
	re := reOf(n, set(1))
	for g := 1; g <= n; g++ {
		re.Nodes = append(re.Nodes, group(g, g-1))
	}
	return re
}

func copyOf(re api.Re) api.Re { return reOf(re.Groups, slices.Clone(re.Nodes)...) }

// isZero tells whether re is the zero value, by R3.
func isZero(re api.Re) bool { return len(re.Nodes) == 0 && re.Groups == 0 }

// someRight are regular expressions of many kinds that are right.
func someRight() []api.Re {
	return []api.Re{
		reOf(0, empty()),
		reOf(0, set()),
		reOf(0, set(1, 2, 3, 1<<63)),
		reOf(0, bol()),
		reOf(0, eol()),
		reOf(0, set(1), set(2), cat(0, 1)),
		reOf(0, set(1), set(2), cat(1, 0)),
		reOf(0, set(1), set(2), alt(0, 1)),
		reOf(0, set(1), set(2), alt(1, 0)),
		reOf(0, set(1), rep(0, 0, 0)),
		reOf(0, set(1), rep(0, 0, api.Unbounded)),
		reOf(0, set(1), rep(0, 255, 255)),
		reOf(0, set(1), rep(0, 255, api.Unbounded)),
		reOf(1, set(1), group(1, 0)),
		reOf(1, set(1), group(1, 0), back(1), cat(1, 2)),
		reOf(1, back(1), group(1, 0)),
		reOf(1, back(1), set(1), group(1, 1), cat(0, 2)),
		reOf(2, set(1), group(2, 0), group(1, 1)),
		reOf(2, set(1), group(2, 0), back(2), back(1), cat(1, 2), group(1, 4), cat(3, 5)),
		reOf(0, bol(), eol(), empty(), alt(1, 2), cat(0, 3)),
		groupsOf(9),
		chainOf(1000),
	}
}

// P6.1: what is right is known to be so.
func TestRight(t *testing.T) {
	for i, re := range someRight() {
		if !tree.Right(re) {
			t.Errorf("%d: %v", i, re)
		}
	}
}

// P6.1: no node isn't right, 1 to 1,000 are, more aren't.
func TestRightHowMany(t *testing.T) {
	for _, re := range []api.Re{{}, {Nodes: []api.Node{}}, {Groups: 1}, {Nodes: []api.Node{}, Groups: 9}} {
		if tree.Right(re) {
			t.Errorf("%v", re)
		}
	}
	for n, want := range map[int]bool{1: true, 2: true, 999: true, 1000: true, 1001: false, 1002: false, 100000: false} {
		if got := tree.Right(chainOf(n)); got != want {
			t.Errorf("%d: %v", n, got)
		}
	}
}

// P6.1: each number of a node that its kind doesn't want is 0.
func TestRightNoNumberTooMany(t *testing.T) {
	turns := []func(n *api.Node, v int){
		func(n *api.Node, v int) { n.A = v },
		func(n *api.Node, v int) { n.B = v },
		func(n *api.Node, v int) { n.Lo = v },
		func(n *api.Node, v int) { n.Hi = v },
		func(n *api.Node, v int) { n.Group = v },
		func(n *api.Node, v int) { n.Set[0] = uint64(v) },
		func(n *api.Node, v int) { n.Set[3] = uint64(v) },
	}
	const a, b, lo, hi, grp = 0, 1, 2, 3, 4
	for name, x := range map[string]struct {
		re    api.Re
		at    int
		wants []int
	}{
		"empty": {reOf(1, set(1), group(1, 0), empty(), cat(1, 2)), 2, nil},
		"set":   {reOf(1, set(1), group(1, 0), set(2), cat(1, 2)), 2, []int{5, 6}},
		"cat":   {reOf(1, set(1), group(1, 0), set(2), cat(1, 2)), 3, []int{a, b}},
		"alt":   {reOf(1, set(1), group(1, 0), set(2), alt(1, 2)), 3, []int{a, b}},
		"rep":   {reOf(1, set(1), group(1, 0), rep(1, 1, 1)), 2, []int{a, lo, hi}},
		"group": {reOf(1, set(1), group(1, 0)), 1, []int{a, grp}},
		"back":  {reOf(1, set(1), group(1, 0), back(1), cat(1, 2)), 2, []int{grp}},
		"bol":   {reOf(1, set(1), group(1, 0), bol(), cat(1, 2)), 2, nil},
		"eol":   {reOf(1, set(1), group(1, 0), eol(), cat(1, 2)), 2, nil},
	} {
		if !tree.Right(x.re) {
			t.Errorf("%s", name)
		}
		for i, turn := range turns {
			if slices.Contains(x.wants, i) {
				continue
			}
			for _, v := range append([]int{1, -1, 2, 255}, ends...) {
				re := copyOf(x.re)
				turn(&re.Nodes[x.at], v)
				if tree.Right(re) {
					t.Errorf("%s: %d: %d", name, i, v)
				}
			}
		}
	}
}

// P6.1: kinds are from 0 to 8.
func TestRightKinds(t *testing.T) {
	for _, kind := range append([]int{-1, 9, 10, 255, 256}, ends...) {
		for _, re := range []api.Re{
			reOf(0, api.Node{Kind: kind}),
			reOf(0, set(1), api.Node{Kind: kind, A: 0}),
			reOf(0, api.Node{Kind: kind}, rep(0, 0, 1)),
		} {
			if tree.Right(re) {
				t.Errorf("%d: %v", kind, re)
			}
		}
	}
}

// P6.1: a part stands ahead of its node; neither the node itself, nor one behind it, nor what is no node's number is one.
func TestRightPartsAhead(t *testing.T) {
	for _, re := range []api.Re{
		reOf(0, rep(0, 1, 1)),
		reOf(0, rep(1, 1, 1)),
		reOf(0, rep(1, 1, 1), set(1)),
		reOf(0, rep(1, 1, 1), rep(0, 1, 1)),
		reOf(0, set(1), rep(1, 1, 1)),
		reOf(0, cat(0, 0)),
		reOf(0, cat(1, 2), set(1), set(2)),
		reOf(0, set(1), cat(0, 1)),
		reOf(0, set(1), cat(1, 0)),
		reOf(0, set(1), alt(0, 2), set(2)),
		reOf(0, set(1), alt(2, 0), set(2)),
		reOf(0, set(1), cat(0, 2), set(1), cat(1, 2)),
		reOf(1, group(1, 0)),
		reOf(1, group(1, 1), set(1)),
		reOf(1, set(1), group(1, 1)),
	} {
		if tree.Right(re) {
			t.Errorf("%v", re)
		}
	}
	for _, p := range append([]int{-1, 2, 3, 1000}, ends...) {
		for _, re := range []api.Re{
			reOf(0, set(1), set(2), cat(p, 1)),
			reOf(0, set(1), set(2), cat(0, p)),
			reOf(0, set(1), set(2), alt(p, 1)),
			reOf(0, set(1), set(2), alt(0, p)),
			reOf(0, set(1), set(2), rep(p, 1, 1), cat(0, 1)),
			reOf(1, set(1), set(2), group(1, p), cat(0, 1)),
		} {
			if tree.Right(re) {
				t.Errorf("%d: %v", p, re)
			}
		}
	}
}

// P6.1: each node but the last is a part of just one, once.
func TestRightPartsOfOne(t *testing.T) {
	for _, re := range []api.Re{
		reOf(0, set(1), set(2)),
		reOf(0, set(1), set(2), rep(0, 1, 1)),
		reOf(0, set(1), set(2), rep(1, 1, 1)),
		reOf(0, set(1), rep(0, 1, 1), rep(0, 1, 1)),
		reOf(0, set(1), rep(0, 1, 1), rep(0, 1, 1), cat(1, 2)),
		reOf(0, set(1), set(2), cat(0, 1), cat(0, 2)),
		reOf(0, set(1), set(2), alt(0, 1), alt(2, 1)),
		reOf(0, set(1), cat(0, 0)),
		reOf(0, set(1), alt(0, 0)),
		reOf(0, set(1), set(2), cat(0, 0)),
		reOf(0, set(1), set(2), cat(0, 1), cat(2, 2)),
		reOf(1, set(1), group(1, 0), rep(0, 1, 1), cat(1, 2)),
	} {
		if tree.Right(re) {
			t.Errorf("%v", re)
		}
	}
}

// isTimes is what the table wants of Lo and Hi.
func isTimes(lo, hi int) bool {
	return lo >= 0 && lo <= 255 && (hi == -1 || hi >= lo && hi <= 255)
}

// P6.1 and P6.2: Lo is from 0 to 255; Hi is Unbounded, or from Lo to 255.
func TestRepTimes(t *testing.T) {
	numbers := slices.Clone(ends)
	for n := -3; n <= 259; n++ {
		numbers = append(numbers, n)
	}
	var b tree.Builder
	b.Set(api.Set{1})
	last := 0
	for _, lo := range numbers {
		for _, hi := range numbers {
			want := isTimes(lo, hi)
			if got := tree.Right(reOf(0, set(1), rep(0, lo, hi))); got != want {
				t.Errorf("%d to %d: %v", lo, hi, got)
			}
			n := b.Rep(last, lo, hi)
			if want != (n == last+1) || !want && n != -1 {
				t.Fatalf("%d to %d: %d behind %d", lo, hi, n, last)
			}
			if last = max(n, last); last == 999 {
				b, last = tree.Builder{}, 0
				b.Set(api.Set{1})
			}
		}
	}
}

// P6.1: there are 0 to 9 groups, and each is that of just one NGroup.
func TestRightGroups(t *testing.T) {
	for n := range 10 {
		if !tree.Right(groupsOf(n)) {
			t.Errorf("%d", n)
		}
	}
	for n := 10; n < 13; n++ {
		if tree.Right(groupsOf(n)) {
			t.Errorf("%d", n)
		}
	}
	for _, n := range append([]int{-1, 1, 9, 10}, ends...) {
		if tree.Right(reOf(n, set(1))) {
			t.Errorf("%d groups, and none has one", n)
		}
	}
	for _, n := range append([]int{-1, 0, 2, 9, 10}, ends...) {
		if tree.Right(reOf(n, set(1), group(1, 0))) {
			t.Errorf("%d groups, and one is there", n)
		}
	}
	for _, g := range append([]int{-1, 0, 2, 9, 10}, ends...) {
		if tree.Right(reOf(1, set(1), group(g, 0))) {
			t.Errorf("the group %d of one", g)
		}
	}
	for _, re := range []api.Re{
		reOf(1, set(1), group(1, 0), group(1, 1)),
		reOf(2, set(1), group(1, 0), group(1, 1)),
		reOf(2, set(1), group(1, 0), group(2, 1), group(2, 2)),
		reOf(2, set(1), group(1, 0), group(2, 1), group(1, 2)),
		reOf(3, set(1), group(1, 0), group(3, 1)),
		reOf(2, set(1), group(2, 0)),
	} {
		if tree.Right(re) {
			t.Errorf("%v", re)
		}
	}
}

// P6.1: the group of an NBack is one that there is, wherever it stands.
func TestRightBack(t *testing.T) {
	for _, g := range append([]int{-1, 0, 1, 2, 3, 9, 10}, ends...) {
		for _, re := range []api.Re{
			reOf(2, set(1), group(1, 0), group(2, 1), back(g), cat(2, 3)),
			reOf(2, back(g), group(1, 0), group(2, 1)),
		} {
			if got := tree.Right(re); got != (g == 1 || g == 2) {
				t.Errorf("%d: %v: %v", g, re, got)
			}
		}
	}
	for _, re := range []api.Re{reOf(0, back(1)), reOf(1, back(1)), reOf(0, back(0)), reOf(1, back(1), rep(0, 1, 1))} {
		if tree.Right(re) {
			t.Errorf("%v", re)
		}
	}
}

// isRight tells by the chapter's words, node by node, whether re is right; of numbers that a kind doesn't want it asks nothing.
func isRight(re api.Re) bool {
	partsOf := func(n api.Node) []int {
		switch n.Kind {
		case 2, 3:
			return []int{n.A, n.B}
		case 4, 5:
			return []int{n.A}
		}
		return nil
	}
	for at, n := range re.Nodes {
		times := 0
		for j, m := range re.Nodes {
			for _, p := range partsOf(m) {
				if p < 0 || p >= j {
					return false
				}
				if p == at {
					times++
				}
			}
		}
		if at < len(re.Nodes)-1 && times != 1 {
			return false
		}
		if n.Kind == 4 && !isTimes(n.Lo, n.Hi) || n.Kind == 6 && (n.Group < 1 || n.Group > re.Groups) {
			return false
		}
	}
	in := 0
	for g := 1; g <= re.Groups; g++ {
		times := 0
		for _, n := range re.Nodes {
			if n.Kind == 5 && n.Group == g {
				times++
			}
		}
		if times != 1 {
			return false
		}
		in++
	}
	for _, n := range re.Nodes {
		if n.Kind == 5 {
			in--
		}
	}
	return in == 0 && len(re.Nodes) > 0
}

// P6.1: Right, held against the chapter's words over all short lists of some nodes.
func TestRightAllShort(t *testing.T) {
	some := []api.Node{empty(), set(1), back(1), rep(0, 2, 1)}
	for a := range 4 {
		some = append(some, rep(a, 0, 1), group(1, a), group(2, a))
		for b := range 4 {
			some = append(some, cat(a, b))
		}
	}
	some = append(some, alt(0, 1), alt(1, 2), alt(0, 0), cat(-1, 0))
	right := 0
	var walk func(nodes []api.Node)
	walk = func(nodes []api.Node) {
		for g := range 3 {
			re := reOf(g, nodes...)
			want := isRight(re)
			if want {
				right++
			}
			if tree.Right(re) != want {
				t.Fatalf("%v: not %v", re, want)
			}
		}
		if len(nodes) == 3 {
			return
		}
		for _, n := range some {
			walk(append(slices.Clip(nodes), n))
		}
	}
	walk(nil)
	if right < 30 {
		t.Error(right)
	}
}

// P6.1: Same holds all nodes, number by number, and the groups against each other, be they right or not.
func TestSame(t *testing.T) {
	l := append(someRight(), api.Re{}, reOf(1), reOf(1, set(1)), reOf(0, api.Node{Kind: 9}), reOf(0, set(1), set(2)), reOf(-1, set(1)), chainOf(1001))
	for i, a := range l {
		for j, b := range l {
			if got := tree.Same(a, copyOf(b)); got != (i == j) {
				t.Errorf("%d, %d: %v", i, j, got)
			}
		}
	}
	if !tree.Same(api.Re{}, api.Re{Nodes: []api.Node{}}) || !tree.Same(api.Re{Nodes: []api.Node{}}, api.Re{}) {
		t.Error("none")
	}
}

// P6.1: Same sees each number of each node, more nodes than the other has, and how many groups there are.
func TestSameEachNumber(t *testing.T) {
	a := reOf(2, set(1), group(1, 0), group(2, 1), rep(2, 3, 4))
	for i, turn := range []func(re *api.Re){
		func(re *api.Re) { re.Groups = 1 },
		func(re *api.Re) { re.Groups = 3 },
		func(re *api.Re) { re.Nodes[0].Kind = api.NEmpty },
		func(re *api.Re) { re.Nodes[1].A = 1 },
		func(re *api.Re) { re.Nodes[1].B = 1 },
		func(re *api.Re) { re.Nodes[3].Lo = 2 },
		func(re *api.Re) { re.Nodes[3].Hi = -1 },
		func(re *api.Re) { re.Nodes[1].Group = 2 },
		func(re *api.Re) { re.Nodes[0].Set[0] = 3 },
		func(re *api.Re) { re.Nodes[0].Set[1] = 1 },
		func(re *api.Re) { re.Nodes[0].Set[3] = 1 << 63 },
		func(re *api.Re) { re.Nodes = re.Nodes[:3] },
		func(re *api.Re) { re.Nodes = re.Nodes[1:] },
		func(re *api.Re) { re.Nodes = append(re.Nodes, set(1)) },
		func(re *api.Re) { re.Nodes[0], re.Nodes[1] = re.Nodes[1], re.Nodes[0] },
		func(re *api.Re) { re.Nodes = nil },
	} {
		b := copyOf(a)
		if !tree.Same(a, b) || !tree.Same(b, a) {
			t.Fatal(i)
		}
		turn(&b)
		if tree.Same(a, b) || tree.Same(b, a) {
			t.Error(i)
		}
	}
}

// P6.1: Least of each kind.
func TestLeast(t *testing.T) {
	two := []api.Node{set(1), rep(0, 3, 3), set(2), rep(2, 5, 5)}
	over := func(n ...api.Node) []api.Node { return append(slices.Clone(two), n...) }
	for i, x := range []struct {
		re   api.Re
		want int
	}{
		{reOf(0, empty()), 0},
		{reOf(0, bol()), 0},
		{reOf(0, eol()), 0},
		{reOf(0, set()), 1},
		{reOf(0, set(1, 1, 1, 1)), 1},
		{reOf(0, set(1), set(2), cat(0, 1)), 2},
		{reOf(0, over(cat(1, 3))...), 8},
		{reOf(0, over(cat(3, 1))...), 8},
		{reOf(0, over(alt(1, 3))...), 3},
		{reOf(0, over(alt(3, 1))...), 3},
		{reOf(0, set(1), empty(), alt(0, 1)), 0},
		{reOf(0, set(1), rep(0, 0, 0)), 0},
		{reOf(0, set(1), rep(0, 0, 255)), 0},
		{reOf(0, set(1), rep(0, 0, api.Unbounded)), 0},
		{reOf(0, set(1), rep(0, 1, api.Unbounded)), 1},
		{reOf(0, set(1), rep(0, 2, 7)), 2},
		{reOf(0, set(1), rep(0, 255, 255)), 255},
		{reOf(0, set(1), rep(0, 3, 3), rep(1, 7, api.Unbounded)), 21},
		{reOf(0, empty(), rep(0, 255, 255)), 0},
		{reOf(1, set(1), rep(0, 4, 4), group(1, 1)), 4},
		{reOf(1, set(1), group(1, 0), back(1), cat(1, 2)), 1},
		{reOf(1, set(1), group(1, 0), back(1), rep(2, 9, 9), cat(1, 3)), 1},
		{reOf(1, back(1), group(1, 0)), 0},
		{reOf(0, bol(), set(1), cat(0, 1), eol(), cat(2, 3)), 1},
		{chainOf(1000), 1},
	} {
		if got := tree.Least(x.re); got != x.want {
			t.Errorf("%d: %d, want %d", i, got, x.want)
		}
	}
}

// P6.1: Least is at most MaxText + 1, be it more, as much, or far beyond what a number holds.
func TestLeastGreat(t *testing.T) {
	// 255 * 257 is 65,535.
	nodes := []api.Node{set(1), rep(0, 255, 255), set(1), rep(2, 2, 2), cat(1, 3), rep(4, 255, 255)}
	for extra, want := range []int{65535, 65536, 65537, 65537, 65537} {
		re := reOf(0, slices.Clone(nodes)...)
		for range extra {
			re.Nodes = append(re.Nodes, set(1))
			re.Nodes = append(re.Nodes, cat(len(re.Nodes)-2, len(re.Nodes)-1))
		}
		if got := tree.Least(re); got != want {
			t.Errorf("%d more: %d", extra, got)
		}
	}
	tower := reOf(0, set(1))
	for i := range 900 {
		tower.Nodes = append(tower.Nodes, rep(i, 255, api.Unbounded))
	}
	if got := tree.Least(tower); got != api.MaxText+1 {
		t.Error(got)
	}
	none := copyOf(tower)
	none.Nodes = append(none.Nodes, rep(900, 0, 255))
	if got := tree.Least(none); got != 0 {
		t.Error(got)
	}
	less := copyOf(tower)
	less.Nodes = append(less.Nodes, set(1), rep(901, 6, 6), alt(900, 902))
	if got := tree.Least(less); got != 6 {
		t.Error(got)
	}
	both := copyOf(tower)
	both.Nodes = append(both.Nodes, set(1), cat(900, 901))
	if got := tree.Least(both); got != api.MaxText+1 {
		t.Error(got)
	}
}

// P6.1: Least of what isn't right is 0.
func TestLeastWrong(t *testing.T) {
	for i, re := range []api.Re{
		{},
		reOf(1),
		reOf(1, set(1)),
		reOf(-1, set(1)),
		reOf(10, set(1)),
		reOf(0, set(1), set(2)),
		reOf(0, set(1), cat(0, 0)),
		reOf(0, set(1), cat(0, 1)),
		reOf(0, set(1), rep(0, 256, 256)),
		reOf(0, set(1), rep(0, 3, 2)),
		reOf(0, set(1), group(1, 0)),
		reOf(0, rep(1, 2, 2), set(1)),
		reOf(0, api.Node{Kind: api.NSet, Lo: 1}),
		reOf(0, api.Node{Kind: 9}),
		reOf(0, set(1), cat(math.MaxInt, math.MinInt)),
		chainOf(1001),
	} {
		if got := tree.Least(re); got != 0 {
			t.Errorf("%d: %d", i, got)
		}
	}
}

// P6.2: each call puts its node behind all and answers its number.
func TestBuilderEach(t *testing.T) {
	var b tree.Builder
	s := api.Set{1, 2, 3, 4}
	if g, h := b.Open(), b.Open(); g != 1 || h != 2 {
		t.Fatal(g, h)
	}
	for i, n := range []int{
		b.Empty(), b.Set(s), b.Cat(0, 1), b.Bol(), b.Alt(2, 3), b.Rep(4, 2, 5), b.Group(1, 5), b.Back(1), b.Cat(6, 7), b.Eol(), b.Alt(9, 8), b.Group(2, 10), b.Rep(11, 0, api.Unbounded),
	} {
		if n != i {
			t.Fatal(i, n)
		}
	}
	want := reOf(2, empty(), set(1, 2, 3, 4), cat(0, 1), bol(), alt(2, 3), rep(4, 2, 5), group(1, 5), back(1), cat(6, 7), eol(), alt(9, 8), group(2, 10), rep(11, 0, -1))
	re, ok := b.Re(12)
	if !ok || !slices.Equal(re.Nodes, want.Nodes) || re.Groups != 2 {
		t.Fatal(re, ok)
	}
}

// P6.2: a node whose part isn't the number of a node isn't put.
func TestBuilderNoPart(t *testing.T) {
	for _, p := range append([]int{-1, 2, 3, 999, 1000, 1001}, ends...) {
		var b tree.Builder
		g := b.Open()
		b.Set(api.Set{1})
		b.Set(api.Set{2})
		for i, n := range []int{
			b.Cat(p), b.Cat(p, 0), b.Cat(0, p), b.Cat(p, p), b.Cat(p, 0, 1),
			b.Alt(p), b.Alt(p, 0), b.Alt(0, p), b.Alt(p, p), b.Alt(p, 0, 1),
			b.Rep(p, 0, 1), b.Group(g, p),
		} {
			if n != -1 {
				t.Errorf("%d: %d: %d", p, i, n)
			}
		}
		if n := b.Group(g, b.Cat(0, 1)); n != 3 {
			t.Errorf("%d: %d", p, n)
		}
		if re, ok := b.Re(3); !ok || !tree.Same(re, reOf(1, set(1), set(2), cat(0, 1), group(1, 2))) {
			t.Errorf("%d: %v", p, re)
		}
	}
}

// P6.2: without nodes, no number is a node's.
func TestBuilderNone(t *testing.T) {
	for _, p := range append([]int{-1, 0, 1}, ends...) {
		var b tree.Builder
		for i, n := range []int{b.Cat(p), b.Cat(p, p), b.Alt(), b.Alt(p), b.Alt(p, p, p), b.Rep(p, 1, 1), b.Group(1, p), b.Back(p), b.Back(1)} {
			if n != -1 {
				t.Errorf("%d: %d: %d", p, i, n)
			}
		}
		if re, ok := b.Re(p); ok || !isZero(re) {
			t.Errorf("%d: %v", p, re)
		}
		if n := b.Empty(); n != 0 {
			t.Errorf("%d: %d", p, n)
		}
	}
}

// P6.2: Cat of none is Empty; Alt of none is -1, and puts nothing.
func TestOfNone(t *testing.T) {
	var b tree.Builder
	if n, m, k := b.Cat(), b.Alt(), b.Cat([]int{}...); n != 0 || m != -1 || k != 1 {
		t.Fatal(n, m, k)
	}
	if n := b.Alt(nil...); n != -1 {
		t.Fatal(n)
	}
	re, ok := b.Re(b.Cat(0, 1))
	if !ok || !tree.Same(re, reOf(0, empty(), empty(), cat(0, 1))) {
		t.Fatal(re, ok)
	}
}

// P6.2: Cat and Alt of one are that one, and put nothing.
func TestOfOne(t *testing.T) {
	var b tree.Builder
	b.Set(api.Set{1})
	b.Set(api.Set{2})
	b.Set(api.Set{4})
	for p := range 3 {
		if n, m := b.Cat(p), b.Alt(p); n != p || m != p {
			t.Fatal(p, n, m)
		}
	}
	if n := b.Cat(0, 1); n != 3 {
		t.Fatal(n)
	}
}

// P6.2: Cat and Alt of many are those of the first two, and so on, in the order in which the parts are told.
func TestOfMany(t *testing.T) {
	for k, join := range map[int]func(b *tree.Builder, l ...int) int{api.NCat: (*tree.Builder).Cat, api.NAlt: (*tree.Builder).Alt} {
		for n := 2; n <= 500; n++ {
			if n > 8 && n < 498 {
				continue
			}
			var b tree.Builder
			var want api.Re
			var l []int
			for i := range n {
				b.Set(api.Set{uint64(i)})
				want.Nodes = append(want.Nodes, set(uint64(i)))
				l = append(l, n-1-i)
			}
			all := l[0]
			for _, p := range l[1:] {
				want.Nodes = append(want.Nodes, api.Node{Kind: k, A: all, B: p})
				all = len(want.Nodes) - 1
			}
			if got := join(&b, l...); got != all {
				t.Fatalf("%d of %d: %d", k, n, got)
			}
			if re, ok := b.Re(all); !ok || !tree.Same(re, want) {
				t.Fatalf("%d of %d: %v", k, n, re)
			}
			for i, p := range l {
				if p != n-1-i {
					t.Fatalf("%d of %d: %v", k, n, l)
				}
			}
		}
	}
}

// P6.2: of more than two, what was put ahead of a -1 stays, and nothing behind it is put.
func TestOfManyStays(t *testing.T) {
	for k, join := range map[int]func(b *tree.Builder, l ...int) int{api.NCat: (*tree.Builder).Cat, api.NAlt: (*tree.Builder).Alt} {
		for i, x := range []struct {
			l    []int
			puts int
		}{
			{[]int{-1, 0, 1}, 0},
			{[]int{0, -1, 1}, 0},
			{[]int{0, 9, 1, 2}, 0},
			{[]int{0, 1, -1}, 1},
			{[]int{0, 1, 9, 2}, 1},
			{[]int{0, 1, 2, -1}, 2},
			{[]int{0, 1, 2, -1, 3}, 2},
			{[]int{0, 1, 2, math.MaxInt, 3, 3, 3}, 2},
			{[]int{0, 1, 2, 3, math.MinInt}, 3},
		} {
			var b tree.Builder
			want := api.Re{}
			for p := range 4 {
				b.Set(api.Set{uint64(p)})
				want.Nodes = append(want.Nodes, set(uint64(p)))
			}
			if n := join(&b, x.l...); n != -1 {
				t.Errorf("%d: %d: %d", k, i, n)
			}
			if n := b.Bol(); n != 4+x.puts {
				t.Errorf("%d: %d: %d were put", k, i, n-4)
			}
			all := 0
			for p := range x.puts {
				want.Nodes = append(want.Nodes, api.Node{Kind: k, A: all, B: p + 1})
				all = 4 + p
			}
			want.Nodes = append(want.Nodes, bol())
			rest := []int{all}
			for p := x.puts + 1; p < 4; p++ {
				rest = append(rest, p)
			}
			rest = append(rest, len(want.Nodes)-1)
			all = rest[0]
			for _, p := range rest[1:] {
				want.Nodes = append(want.Nodes, cat(all, p))
				all = len(want.Nodes) - 1
			}
			if re, ok := b.Re(b.Cat(rest...)); !ok || !tree.Same(re, want) {
				t.Errorf("%d: %d: %v, want %v", k, i, re, want)
			}
		}
	}
}

// P6.2: Cat and Alt of many are those of the first two, and so on: what was put for these is the number of a node then.
func TestOfManyGrows(t *testing.T) {
	var b tree.Builder
	b.Set(api.Set{1})
	b.Set(api.Set{2})
	if n := b.Cat(0, 1, 2); n != 3 {
		t.Error(n)
	}
	if n := b.Alt(0, 4, 1); n != -1 {
		t.Error(n)
	}
	if n := b.Bol(); n != 4 {
		t.Error(n)
	}
}

// P6.2: there are at most 1,000 nodes; whatever would be one more is -1, and the others stay.
func TestBuilderFull(t *testing.T) {
	var b tree.Builder
	g := b.Open()
	last := b.Group(g, b.Set(api.Set{1}))
	for n := 2; n < 999; n++ {
		if last = b.Rep(last, 1, 1); last != n {
			t.Fatal(n, last)
		}
	}
	if n := b.Eol(); n != 999 {
		t.Fatal(n)
	}
	for i, n := range []int{
		b.Empty(), b.Set(api.Set{}), b.Cat(), b.Cat(0, 1), b.Cat(0, 1, 2), b.Alt(), b.Alt(0, 1), b.Alt(0, 1, 2),
		b.Rep(0, 0, 1), b.Group(g, 0), b.Back(g), b.Bol(), b.Eol(), b.Cat(1000), b.Alt(1000), b.Cat(1000, 0),
	} {
		if n != -1 {
			t.Errorf("%d: %d", i, n)
		}
	}
	if n, m := b.Cat(999), b.Alt(5); n != 999 || m != 5 {
		t.Error(n, m)
	}
	if h := b.Open(); h != 2 {
		t.Error(h)
	}
	if re, ok := b.Re(1000); ok || !isZero(re) {
		t.Error(ok)
	}
}

// P6.2: a builder's 1,000 nodes are a regular expression.
func TestBuilderFullRe(t *testing.T) {
	var b tree.Builder
	last := b.Set(api.Set{1})
	for n := 1; n < 1000; n++ {
		last = b.Rep(last, 1, 1)
	}
	b.Bol()
	re, ok := b.Re(999)
	if !ok || !tree.Same(re, chainOf(1000)) || last != 999 {
		t.Error(len(re.Nodes), ok, last)
	}
}

// P6.2: where a row of parts would need more than 1,000 nodes, those that found room stay.
func TestOfManyFull(t *testing.T) {
	for _, join := range []func(b *tree.Builder, l ...int) int{(*tree.Builder).Cat, (*tree.Builder).Alt} {
		for _, n := range []int{500, 501, 502, 600, 998, 999, 1000} {
			var b tree.Builder
			var l []int
			for range n {
				l = append(l, b.Set(api.Set{1}))
			}
			want := -1
			if n == 500 {
				want = 998
			}
			if got := join(&b, l...); got != want {
				t.Errorf("%d: %d", n, got)
			}
			if got := b.Empty(); n == 500 && got != 999 || n > 500 && got != -1 {
				t.Errorf("%d: %d", n, got)
			}
			if got := b.Cat(998); got != 998 {
				t.Errorf("%d: %d", n, got)
			}
		}
	}
}

// P6.2: Open tells 1 to 9, and then -1, as often as it is asked.
func TestOpen(t *testing.T) {
	var b tree.Builder
	s := b.Set(api.Set{1})
	for g := 1; g <= 9; g++ {
		if n := b.Open(); n != g {
			t.Fatal(g, n)
		}
		if n := b.Group(g+1, s); n != -1 {
			t.Fatal(g, n)
		}
		s = b.Group(g, s)
	}
	for range 12 {
		if n := b.Open(); n != -1 {
			t.Fatal(n)
		}
	}
	if n := b.Group(10, s); n != -1 {
		t.Fatal(n)
	}
	re, ok := b.Re(s)
	if !ok || !tree.Same(re, groupsOf(9)) {
		t.Fatal(re, ok)
	}
}

// P6.2: Group and Back are of what was opened alone, whether that was put or not.
func TestGroupAndBack(t *testing.T) {
	for _, opened := range []int{0, 1, 2, 8, 9, 10} {
		for _, g := range append([]int{-1, 0, 1, 2, 3, 8, 9, 10, 11}, ends...) {
			var b tree.Builder
			b.Set(api.Set{1})
			for range opened {
				b.Open()
			}
			there := g >= 1 && g <= min(opened, 9)
			want := [3]int{-1, -1, 1}
			if there {
				want = [3]int{1, 2, 3}
			}
			if got := [3]int{b.Group(g, 0), b.Back(g), b.Eol()}; got != want {
				t.Errorf("%d of %d: %v", g, opened, got)
			}
		}
	}
}

// P6.2: a group may be put twice, as only Re asks for just one.
func TestGroupTwice(t *testing.T) {
	var b tree.Builder
	g := b.Open()
	s := b.Set(api.Set{1})
	if n, m := b.Group(g, s), b.Group(g, s); n != 1 || m != 2 {
		t.Fatal(n, m)
	}
	if re, ok := b.Re(1); !ok || !tree.Same(re, groupsOf(1)) {
		t.Error(re, ok)
	}
	if re, ok := b.Re(2); ok || !isZero(re) {
		t.Error(re, ok)
	}
	if re, ok := b.Re(b.Group(g, 1)); ok || !isZero(re) {
		t.Error(re, ok)
	}
}

// P6.2: a node may be a part of two or of none till Re asks.
func TestPartsAreAskedByRe(t *testing.T) {
	for i, x := range []struct {
		build func(b *tree.Builder) int
		right bool
	}{
		{func(b *tree.Builder) int { s := b.Set(api.Set{1}); return b.Cat(s, s) }, false},
		{func(b *tree.Builder) int { s := b.Set(api.Set{1}); return b.Alt(s, s) }, false},
		{func(b *tree.Builder) int { s := b.Set(api.Set{1}); return b.Cat(b.Rep(s, 1, 1), b.Rep(s, 1, 1)) }, false},
		{func(b *tree.Builder) int { s := b.Set(api.Set{1}); b.Bol(); return b.Rep(s, 1, 1) }, false},
		{func(b *tree.Builder) int { b.Bol(); return b.Eol() }, false},
		{func(b *tree.Builder) int { b.Open(); return b.Eol() }, false},
		{func(b *tree.Builder) int { g := b.Open(); return b.Back(g) }, false},
		{func(b *tree.Builder) int { g := b.Open(); return b.Group(g, b.Back(g)) }, true},
		{func(b *tree.Builder) int { g, h := b.Open(), b.Open(); return b.Group(h, b.Group(g, b.Eol())) }, true},
		{func(b *tree.Builder) int { g, _ := b.Open(), b.Open(); return b.Group(g, b.Eol()) }, false},
		{func(b *tree.Builder) int { s := b.Set(api.Set{1}); return b.Cat(b.Set(api.Set{2}), s) }, true},
	} {
		var b tree.Builder
		root := x.build(&b)
		re, ok := b.Re(root)
		if root < 0 || ok != x.right || ok != tree.Right(re) || !ok && !isZero(re) {
			t.Errorf("%d: %d, %v, %v", i, root, re, ok)
		}
	}
}

// P6.2: Re is of the nodes up to root, be it the last or one ahead of it; the builder stays as it was.
func TestReAhead(t *testing.T) {
	var b tree.Builder
	b.Set(api.Set{1})
	b.Rep(0, 2, 2)
	b.Set(api.Set{2})
	b.Cat(1, 2)
	want := reOf(0, set(1), rep(0, 2, 2), set(2), cat(1, 2))
	for range 2 {
		for _, root := range []int{3, 0, 1} {
			re, ok := b.Re(root)
			if !ok || !tree.Same(re, reOf(0, want.Nodes[:root+1]...)) {
				t.Errorf("%d: %v, %v", root, re, ok)
			}
		}
		for _, root := range append([]int{-1, 2, 4, 5, 1000}, ends...) {
			if re, ok := b.Re(root); ok || !isZero(re) {
				t.Errorf("%d: %v, %v", root, re, ok)
			}
		}
	}
	if n := b.Bol(); n != 4 {
		t.Error(n)
	}
}

// P6.2: Re has as many groups as were opened, even behind root: then one of them is that of no node.
func TestReGroups(t *testing.T) {
	var b tree.Builder
	s := b.Set(api.Set{1})
	if re, ok := b.Re(s); !ok || re.Groups != 0 {
		t.Error(re, ok)
	}
	g := b.Open()
	if re, ok := b.Re(s); ok || !isZero(re) {
		t.Error(re, ok)
	}
	n := b.Group(g, s)
	if re, ok := b.Re(s); ok || !isZero(re) {
		t.Error(re, ok)
	}
	if re, ok := b.Re(n); !ok || re.Groups != 1 {
		t.Error(re, ok)
	}
	b.Open()
	if re, ok := b.Re(n); ok || !isZero(re) {
		t.Error(re, ok)
	}
}

// model is a builder told by the chapter's words.
type model struct {
	nodes  []api.Node
	groups int
}

func (m *model) has(p int) bool { return p >= 0 && p < len(m.nodes) }

func (m *model) put(n api.Node, ok bool) int {
	if !ok || len(m.nodes) == 1000 {
		return -1
	}
	m.nodes = append(m.nodes, n)
	return len(m.nodes) - 1
}

func (m *model) row(kind int, l []int) int {
	switch len(l) {
	case 0:
		return m.put(empty(), kind == api.NCat)
	case 1:
		if m.has(l[0]) {
			return l[0]
		}
		return -1
	}
	a, b := m.row(kind, l[:len(l)-1]), l[len(l)-1]
	return m.put(api.Node{Kind: kind, A: a, B: b}, m.has(a) && m.has(b))
}

func (m *model) open() int {
	if m.groups == 9 {
		return -1
	}
	m.groups++
	return m.groups
}

func (m *model) re(root int) (api.Re, bool) {
	if !m.has(root) || !isRight(reOf(m.groups, m.nodes[:root+1]...)) {
		return api.Re{}, false
	}
	return reOf(m.groups, m.nodes[:root+1]...), true
}

// P6.2: rows of calls, held against the model; parts are chosen near the last nodes, so that some are right.
func TestBuilderModel(t *testing.T) {
	r := numbers(6)
	right := 0
	for range 20000 {
		var b tree.Builder
		var m model
		for range r.Intn(10) {
			part := func() int { return len(m.nodes) - r.Intn(4) }
			var l []int
			for i := range r.Intn(4) {
				if r.Intn(4) > 0 {
					l = append(l, len(m.nodes)-1-i)
				} else {
					l = append(l, part())
				}
			}
			p, g, lo, hi := part(), r.Intn(4)-1, r.Intn(4)-1, r.Intn(4)-2
			s := api.Set{uint64(r.Intn(3))}
			var got, want int
			switch r.Intn(10) {
			case 0:
				got, want = b.Empty(), m.put(empty(), true)
			case 1:
				got, want = b.Set(s), m.put(set(s[0]), true)
			case 2, 3:
				got, want = b.Cat(l...), m.row(api.NCat, l)
			case 4:
				got, want = b.Alt(l...), m.row(api.NAlt, l)
			case 5:
				got, want = b.Rep(p, lo, hi), m.put(rep(p, lo, hi), m.has(p) && isTimes(lo, hi))
			case 6:
				got, want = b.Open(), m.open()
			case 7:
				got, want = b.Group(g, p), m.put(group(g, p), m.has(p) && g >= 1 && g <= m.groups)
			case 8:
				got, want = b.Back(g), m.put(back(g), g >= 1 && g <= m.groups)
			case 9:
				got, want = b.Bol(), m.put(bol(), true)
			}
			if got != want {
				t.Fatalf("%v: %d, want %d", m, got, want)
			}
			for root := -1; root <= len(m.nodes); root++ {
				re, ok := b.Re(root)
				x, right1 := m.re(root)
				if ok != right1 || !tree.Same(re, x) {
					t.Fatalf("%v: %d: %v, %v", m, root, re, ok)
				}
				if ok && root > 1 {
					right++
				}
			}
		}
	}
	if right < 1000 {
		t.Error(right)
	}
}

// leastOf tells by the chapter's words how many bytes a node takes at least, without a bound.
func leastOf(re api.Re, at int) *big.Int {
	n := re.Nodes[at]
	z := new(big.Int)
	switch n.Kind {
	case api.NSet:
		z.SetInt64(1)
	case api.NCat:
		z.Add(leastOf(re, n.A), leastOf(re, n.B))
	case api.NAlt:
		a, b := leastOf(re, n.A), leastOf(re, n.B)
		if z = a; b.Cmp(a) < 0 {
			z = b
		}
	case api.NRep:
		z.Mul(big.NewInt(int64(n.Lo)), leastOf(re, n.A))
	case api.NGroup:
		z = leastOf(re, n.A)
	}
	return z
}

// P6.1 and P6.2: trees that a builder was told part by part are right, and Least of them is the whole's number, bounded at last alone.
func TestLeastOfBuilt(t *testing.T) {
	r := numbers(66)
	bound := big.NewInt(api.MaxText + 1)
	great := 0
	for range 3000 {
		var b tree.Builder
		var free []int
		take := func() int {
			i := r.Intn(len(free))
			p := free[i]
			free = slices.Delete(free, i, i+1)
			return p
		}
		for range 1 + r.Intn(12) {
			free = append(free, b.Set(api.Set{1}))
			if r.Intn(4) == 0 {
				free = append(free, []func() int{b.Empty, b.Bol, b.Eol}[r.Intn(3)]())
			}
		}
		for len(free) > 1 {
			switch r.Intn(4) {
			case 0:
				free = append(free, b.Cat(take(), take()))
			case 1:
				free = append(free, b.Alt(take(), take()))
			case 2:
				lo := r.Intn(256)
				free = append(free, b.Rep(take(), lo, []int{-1, lo, 255}[r.Intn(3)]))
			case 3:
				if g := b.Open(); g > 0 {
					free = append(free, b.Group(g, take()))
					if r.Intn(2) == 0 {
						free = append(free, b.Back(g))
					}
				}
			}
		}
		re, ok := b.Re(free[0])
		if !ok || !tree.Right(re) {
			t.Fatal(re, ok)
		}
		want := leastOf(re, len(re.Nodes)-1)
		if want.Cmp(bound) > 0 {
			want = bound
			great++
		}
		if got := tree.Least(re); int64(got) != want.Int64() {
			t.Fatalf("%v: %d, want %v", re, got, want)
		}
	}
	if great < 50 {
		t.Error(great)
	}
}

// R4: what Re answers is new memory: written over and grown, it changes neither the builder nor another answer.
func TestReIsNew(t *testing.T) {
	var b tree.Builder
	g := b.Open()
	b.Set(api.Set{1})
	b.Group(g, 0)
	one, _ := b.Re(1)
	two, _ := b.Re(1)
	one.Nodes[0] = eol()
	_ = append(one.Nodes[:1], eol(), eol(), eol())
	one.Groups = 7
	if n := b.Rep(1, 3, 3); n != 2 {
		t.Fatal(n)
	}
	_ = append(two.Nodes, eol(), eol())
	three, ok := b.Re(2)
	if !ok || !tree.Same(three, reOf(1, set(1), group(1, 0), rep(1, 3, 3))) || !tree.Same(two, groupsOf(1)) {
		t.Error(two, three, ok)
	}
	b.Eol()
	if !tree.Same(three, reOf(1, set(1), group(1, 0), rep(1, 3, 3))) {
		t.Error(three)
	}
}

// R4: what is handed in stays as it was, and what lies behind its length plays no part.
func TestArgumentsStay(t *testing.T) {
	long := reOf(0, set(1), rep(0, 2, 2), set(7), eol())
	re := reOf(0, long.Nodes[:2]...)
	if !tree.Right(re) || tree.Least(re) != 2 || !tree.Same(re, reOf(0, set(1), rep(0, 2, 2))) {
		t.Error(re)
	}
	if !slices.Equal(long.Nodes, []api.Node{set(1), rep(0, 2, 2), set(7), eol()}) {
		t.Error(long)
	}
	var b tree.Builder
	b.Set(api.Set{1})
	b.Set(api.Set{2})
	l := []int{1, 0, 9, 9}
	if n, m := b.Cat(l[:2]...), b.Alt(l[:2]...); n != 2 || m != 3 {
		t.Error(n, m)
	}
	if !slices.Equal(l, []int{1, 0, 9, 9}) {
		t.Error(l)
	}
}

// Each builder goes on by itself.
func TestBuildersApart(t *testing.T) {
	var a, b tree.Builder
	a.Open()
	a.Set(api.Set{1})
	if n, g := b.Set(api.Set{2}), b.Open(); n != 0 || g != 1 {
		t.Error(n, g)
	}
	if n, m := a.Group(1, 0), b.Back(1); n != 1 || m != 1 {
		t.Error(n, m)
	}
	if re, ok := a.Re(1); !ok || !tree.Same(re, groupsOf(1)) {
		t.Error(re, ok)
	}
}

// R6: the same call has the same answer, each time.
func TestSameAnswer(t *testing.T) {
	for i, re := range someRight() {
		before := copyOf(re)
		least := tree.Least(re)
		for range 3 {
			if !tree.Right(re) || tree.Least(re) != least || !tree.Same(re, before) {
				t.Errorf("%d", i)
			}
		}
	}
}
