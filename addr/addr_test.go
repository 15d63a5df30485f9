package addr_test

import (
	"math"
	"slices"
	"strings"
	"testing"

	"palinode/addr"
	"palinode/api"
)

// P15.1: right ones, each with so many regular expressions.
func TestRight(t *testing.T) {
	for _, x := range []struct {
		a    api.Addr
		res  int
		want bool
	}{
		{api.Addr{}, 0, true},
		{api.Addr{Kind: api.ANone, N: 1}, 0, false},
		{api.Addr{Kind: api.ANone, N: -1}, 0, false},
		{api.Addr{Kind: api.ANone, Re: 1}, 5, false},
		{api.Addr{Kind: api.ANone, Re: api.LastRe}, 5, false},
		{api.Addr{Kind: api.ALast}, 0, true},
		{api.Addr{Kind: api.ALast, N: 1}, 0, false},
		{api.Addr{Kind: api.ALast, N: -1}, 0, false},
		{api.Addr{Kind: api.ALast, Re: 1}, 5, false},
		{api.Addr{Kind: api.ALast, Re: api.LastRe}, 5, false},
		{api.Addr{Kind: api.ALine}, 0, true},
		{api.Addr{Kind: api.ALine, N: 1}, 0, true},
		{api.Addr{Kind: api.ALine, N: -1}, 0, false},
		{api.Addr{Kind: api.ALine, N: math.MinInt}, 0, false},
		{api.Addr{Kind: api.ALine, N: 1<<31 - 1}, 0, true},
		{api.Addr{Kind: api.ALine, N: 1 << 31}, 0, true},
		{api.Addr{Kind: api.ALine, N: 1<<31 + 1}, 0, false},
		{api.Addr{Kind: api.ALine, N: math.MaxInt}, 0, false},
		{api.Addr{Kind: api.ALine, N: 3, Re: 1}, 5, false},
		{api.Addr{Kind: api.ALine, N: 3, Re: api.LastRe}, 5, false},
		{api.Addr{Kind: api.ARe, Re: -1}, 0, true},
		{api.Addr{Kind: api.ARe, Re: -1}, 1, true},
		{api.Addr{Kind: api.ARe, Re: -1}, -1, true},
		{api.Addr{Kind: api.ARe, Re: -1}, math.MinInt, true},
		{api.Addr{Kind: api.ARe, Re: -1}, math.MaxInt, true},
		{api.Addr{Kind: api.ARe, Re: -2}, 5, false},
		{api.Addr{Kind: api.ARe, Re: -2}, -1, false},
		{api.Addr{Kind: api.ARe, Re: -2}, -5, false},
		{api.Addr{Kind: api.ARe, Re: math.MinInt}, 5, false},
		{api.Addr{Kind: api.ARe, Re: 0}, 0, false},
		{api.Addr{Kind: api.ARe, Re: 0}, -1, false},
		{api.Addr{Kind: api.ARe, Re: 0}, 1, true},
		{api.Addr{Kind: api.ARe, Re: 1}, 1, false},
		{api.Addr{Kind: api.ARe, Re: 4}, 5, true},
		{api.Addr{Kind: api.ARe, Re: 5}, 5, false},
		{api.Addr{Kind: api.ARe, Re: 6}, 5, false},
		{api.Addr{Kind: api.ARe, Re: math.MaxInt - 1}, math.MaxInt, true},
		{api.Addr{Kind: api.ARe, Re: math.MaxInt}, math.MaxInt, false},
		{api.Addr{Kind: api.ARe, Re: math.MaxInt}, math.MinInt, false},
		{api.Addr{Kind: api.ARe, N: 1, Re: 0}, 5, false},
		{api.Addr{Kind: api.ARe, N: -1, Re: 0}, 5, false},
		{api.Addr{Kind: api.ARe, N: 1, Re: -1}, 5, false},
		{api.Addr{Kind: api.ARe, N: -1, Re: -1}, 5, false},
	} {
		if got := addr.Right(x.a, x.res); got != x.want {
			t.Errorf("Right(%v, %d) = %v", x.a, x.res, got)
		}
	}
}

// P15.1: a kind that is none is never right, whatever stands beside it.
func TestRightOfNoKind(t *testing.T) {
	for _, kind := range noKinds() {
		for _, n := range someInts() {
			for _, r := range someInts() {
				for _, res := range someInts() {
					if addr.Right(api.Addr{Kind: kind, N: n, Re: r}, res) {
						t.Fatalf("Right of the kind %d, %d, %d, of %d", kind, n, r, res)
					}
				}
			}
		}
	}
}

// P15.1: each kind, with all numbers about the bounds, as it is right by the chapter's words.
func TestRightOfAll(t *testing.T) {
	for _, n := range someInts() {
		for _, r := range someInts() {
			for _, res := range someInts() {
				both, short := n == 0 && r == 0, r == 0 && 0 <= n && n <= 2147483648
				among := n == 0 && (r == -1 || r != -1 && r > -1 && r < res)
				for kind, want := range []bool{both, short, both, among} {
					if got := addr.Right(api.Addr{Kind: kind, N: n, Re: r}, res); got != want {
						t.Fatalf("Right of the kind %d, %d, %d, of %d: %v", kind, n, r, res, got)
					}
				}
			}
		}
	}
}

// P15.1, P15.3: Holds: its answers, and of which regular expressions Find is asked.
func TestHolds(t *testing.T) {
	for _, x := range []struct {
		a      api.Addr
		n      int
		isLast bool
		f      *finder
		want   string
	}{
		{none, 0, false, nil, "true 0"},
		{none, 1, true, &finder{}, "true 0"},
		{none, -5, false, &finder{e: map[int]api.Errno{0: api.ErrFuel}}, "true 0"},
		{api.Addr{N: 3, Re: 7}, 5, false, &finder{}, "true 0"},
		{line(3), 2, true, &finder{}, "false 0"},
		{line(3), 3, false, &finder{}, "true 0"},
		{line(3), 3, true, nil, "true 0"},
		{line(3), 4, true, &finder{}, "false 0"},
		{line(0), 0, false, nil, "true 0"},
		{line(0), 1, false, nil, "false 0"},
		{line(0), -1, true, nil, "false 0"},
		{line(-1), -1, false, nil, "true 0"},
		{line(1), -1, false, nil, "false 0"},
		{line(-1), 1, false, nil, "false 0"},
		{line(math.MaxInt), math.MaxInt, false, nil, "true 0"},
		{line(math.MaxInt), math.MinInt, false, nil, "false 0"},
		{line(math.MinInt), math.MinInt, false, nil, "true 0"},
		{line(1 << 32), 0, false, nil, "false 0"},
		{api.Addr{Kind: api.ALine, N: 3, Re: -9}, 3, false, &finder{}, "true 0"},
		{last, 3, true, &finder{}, "true 0"},
		{last, 3, false, &finder{}, "false 0"},
		{last, 0, true, nil, "true 0"},
		{last, 0, false, nil, "false 0"},
		{api.Addr{Kind: api.ALast, N: 3, Re: 1}, 3, false, &finder{}, "false 0"},
		{api.Addr{Kind: api.ALast, N: 3, Re: 1}, 4, true, &finder{}, "true 0"},
		{re(2), 3, false, &finder{found: map[int]bool{2: true}}, "true 0 2"},
		{re(2), 3, true, &finder{found: map[int]bool{1: true, 3: true}}, "false 0 2"},
		{re(0), 0, false, &finder{found: map[int]bool{0: true}}, "true 0 0"},
		{re(2), 3, true, nil, "false 0"},
		{re(-1), 3, true, nil, "false 0"},
		{re(-1), 3, false, &finder{found: map[int]bool{-1: true}}, "true 0 -1"},
		{re(-2), 3, false, &finder{found: map[int]bool{-2: true}}, "true 0 -2"},
		{re(-2), 3, false, nil, "false 0"},
		{re(math.MaxInt), 3, false, &finder{found: map[int]bool{math.MaxInt: true}}, "true 0 9223372036854775807"},
		{re(math.MinInt), 3, false, &finder{}, "false 0 -9223372036854775808"},
		{api.Addr{Kind: api.ARe, N: 8, Re: 2}, 3, false, &finder{found: map[int]bool{2: true}}, "true 0 2"},
		{re(2), 3, false, &finder{e: map[int]api.Errno{2: api.ErrRegex}}, "false 27 2"},
		{re(2), 3, true, &finder{found: map[int]bool{2: true}, e: map[int]api.Errno{2: api.ErrRegex}}, "false 27 2"},
		{re(2), 3, true, &finder{found: map[int]bool{2: true}, e: map[int]api.Errno{2: api.ErrFuel}}, "false 18 2"},
		{re(2), 3, true, &finder{found: map[int]bool{2: true}, e: map[int]api.Errno{2: api.ErrArg}}, "false 1 2"},
		{re(2), 3, true, &finder{found: map[int]bool{2: true}, e: map[int]api.Errno{2: -7}}, "false -7 2"},
		{re(2), 3, true, &finder{found: map[int]bool{2: true}, e: map[int]api.Errno{2: 1000}}, "false 1000 2"},
	} {
		if got := holds(x.a, x.n, x.isLast, x.f); got != x.want {
			t.Errorf("Holds(%v) at %d, %v: %s; want %s", x.a, x.n, x.isLast, got, x.want)
		}
	}
}

// P15.1, P15.3: a kind that is none: ErrArg, and nothing is asked.
func TestHoldsOfNoKind(t *testing.T) {
	for _, kind := range noKinds() {
		for _, f := range []*finder{nil, {}, {found: map[int]bool{0: true}}, {e: map[int]api.Errno{0: api.ErrFuel}}} {
			for _, n := range []int{-1, 0, 1} {
				for _, isLast := range []bool{false, true} {
					if got := holds(api.Addr{Kind: kind}, n, isLast, f); got != "false 1" {
						t.Errorf("Holds of the kind %d at %d, %v: %s", kind, n, isLast, got)
					}
				}
			}
		}
	}
}

// at is the look of the line 5, in which 1 and -1 are found, and 2 and 3 are not; of 7 and 8 an error is told, with true beside it of 8.
func at(isLast bool) (int, bool, *finder) {
	return 5, isLast, &finder{
		found: map[int]bool{1: true, -1: true, 8: true},
		e:     map[int]api.Errno{7: api.ErrFuel, 8: api.ErrRegex},
	}
}

// P15.2, P15.3: two is ANone, active or not.
func TestSelectOne(t *testing.T) {
	for _, x := range []struct {
		one    api.Addr
		isLast bool
		want   string
	}{
		{none, false, "true false 0"},
		{none, true, "true false 0"},
		{line(4), false, "false false 0"},
		{line(5), false, "true false 0"},
		{line(6), true, "false false 0"},
		{line(0), false, "false false 0"},
		{last, false, "false false 0"},
		{last, true, "true false 0"},
		{re(1), false, "true false 0 1"},
		{re(-1), false, "true false 0 -1"},
		{re(2), true, "false false 0 2"},
		{re(7), false, "false false 18 7"},
		{re(8), false, "false false 27 8"},
	} {
		for _, active := range []bool{false, true} {
			for _, two := range []api.Addr{none, {N: 9}, {N: 5, Re: 1}, {Re: -1}} {
				n, isLast, f := at(x.isLast)
				if got := selects(x.one, two, active, n, isLast, f); got != x.want {
					t.Errorf("Select(%v, %v, %v), %v: %s; want %s", x.one, two, active, isLast, got, x.want)
				}
			}
		}
	}
	for _, active := range []bool{false, true} {
		if got := selects(re(1), none, active, 5, true, nil); got != "false false 0" {
			t.Errorf("Select of one, %v, without Find: %s", active, got)
		}
	}
}

// P15.2, P15.3: active: one isn't looked at, whatever it is; two ends it, or doesn't.
func TestSelectActive(t *testing.T) {
	ones := []api.Addr{none, line(5), line(6), line(-1), last, re(1), re(2), re(7), re(8), re(-5), {Kind: api.ALine, N: 4, Re: 4}}
	for _, x := range []struct {
		two    api.Addr
		isLast bool
		want   string
	}{
		{line(6), false, "true true 0"},
		{line(6), true, "true true 0"},
		{line(math.MaxInt), true, "true true 0"},
		{line(5), false, "true false 0"},
		{line(4), false, "true false 0"},
		{line(0), false, "true false 0"},
		{line(math.MinInt), false, "true false 0"},
		{last, false, "true true 0"},
		{last, true, "true false 0"},
		{re(1), false, "true false 0 1"},
		{re(-1), true, "true false 0 -1"},
		{re(2), false, "true true 0 2"},
		{re(2), true, "true true 0 2"},
		{re(-2), false, "true true 0 -2"},
		{re(7), false, "false false 18 7"},
		{re(8), true, "false false 27 8"},
	} {
		for _, one := range ones {
			n, isLast, f := at(x.isLast)
			if got := selects(one, x.two, true, n, isLast, f); got != x.want {
				t.Errorf("Select(%v, %v, true), %v: %s; want %s", one, x.two, isLast, got, x.want)
			}
		}
	}
	for _, isLast := range []bool{false, true} {
		if got := selects(re(1), re(1), true, 5, isLast, nil); got != "true true 0" {
			t.Errorf("Select of two, active, without Find, %v: %s", isLast, got)
		}
	}
}

// P15.2, P15.3: not active, and one holds: two is looked at, but not looked for in this line.
func TestSelectBegins(t *testing.T) {
	for _, x := range []struct {
		two    api.Addr
		isLast bool
		want   string
	}{
		{line(6), false, "true true 0"},
		{line(6), true, "true true 0"},
		{line(math.MaxInt), false, "true true 0"},
		{line(5), false, "true false 0"},
		{line(5), true, "true false 0"},
		{line(4), false, "true false 0"},
		{line(0), true, "true false 0"},
		{line(-1), false, "true false 0"},
		{last, false, "true true 0"},
		{last, true, "true false 0"},
		{re(1), false, "true true 0"},
		{re(1), true, "true true 0"},
		{re(2), false, "true true 0"},
		{re(2), true, "true true 0"},
		{re(7), false, "true true 0"},
		{re(8), true, "true true 0"},
		{re(-1), true, "true true 0"},
	} {
		for _, y := range []struct {
			one   api.Addr
			asked string
		}{{none, ""}, {line(5), ""}, {re(1), " 1"}, {re(-1), " -1"}} {
			n, isLast, f := at(x.isLast)
			if got := selects(y.one, x.two, false, n, isLast, f); got != x.want+y.asked {
				t.Errorf("Select(%v, %v, false), %v: %s; want %s", y.one, x.two, isLast, got, x.want+y.asked)
			}
		}
	}
	for two, want := range map[api.Addr]string{line(5): "true false 0", line(6): "true true 0", last: "true false 0", re(1): "true true 0"} {
		n, isLast, f := at(true)
		if got := selects(last, two, false, n, isLast, f); got != want {
			t.Errorf("Select(%v, %v, false) at the last line: %s; want %s", last, two, got, want)
		}
	}
}

// P15.2, P15.3: not active, and one doesn't hold: two isn't looked at.
func TestSelectBeginsNot(t *testing.T) {
	twos := []api.Addr{none, line(4), line(5), line(6), last, re(1), re(2), re(7), re(8), re(-1)}
	for _, two := range twos {
		for _, x := range []struct {
			one  api.Addr
			want string
		}{
			{line(4), "false false 0"},
			{line(6), "false false 0"},
			{line(0), "false false 0"},
			{line(-5), "false false 0"},
			{last, "false false 0"},
			{re(2), "false false 0 2"},
			{re(-2), "false false 0 -2"},
			{re(7), "false false 18 7"},
			{re(8), "false false 27 8"},
		} {
			n, _, f := at(false)
			if got := selects(x.one, two, false, n, false, f); got != x.want {
				t.Errorf("Select(%v, %v, false): %s; want %s", x.one, two, got, x.want)
			}
		}
		for _, isLast := range []bool{false, true} {
			if got := selects(re(1), two, false, 5, isLast, nil); got != "false false 0" {
				t.Errorf("Select(%v, %v, false) without Find: %s", re(1), two, got)
			}
		}
	}
}

// P15.2, P15.3: a kind that is none, of one, of two, and of both: ErrArg, ahead of what Find would tell, which isn't asked.
func TestSelectOfNoKind(t *testing.T) {
	all := []api.Addr{none, line(5), line(6), last, re(1), re(2), re(7), re(8)}
	for _, kind := range noKinds() {
		wrong := api.Addr{Kind: kind, N: 5, Re: 1}
		for _, other := range append(slices.Clone(all), wrong, api.Addr{Kind: 9}) {
			for _, pair := range [][2]api.Addr{{wrong, other}, {other, wrong}} {
				for _, active := range []bool{false, true} {
					for _, isLast := range []bool{false, true} {
						n, _, f := at(isLast)
						if got := selects(pair[0], pair[1], active, n, isLast, f); got != "false false 1" {
							t.Errorf("Select(%v, %v, %v), %v: %s", pair[0], pair[1], active, isLast, got)
						}
						if got := selects(pair[0], pair[1], active, n, isLast, nil); got != "false false 1" {
							t.Errorf("Select(%v, %v, %v), %v, without Find: %s", pair[0], pair[1], active, isLast, got)
						}
					}
				}
			}
		}
	}
}

// addrs are addresses of each kind and of none, right and not.
func addrs() []api.Addr {
	var all []api.Addr
	for _, kind := range append(noKinds(), 0, 1, 2, 3) {
		for _, n := range []int{math.MinInt, -1, 0, 1, 2, 3, math.MaxInt} {
			all = append(all, api.Addr{Kind: kind, N: n, Re: n}, api.Addr{Kind: kind, N: n, Re: 1 - n})
		}
	}
	return all
}

// finders are those that find all, nothing, or some, and tell errors; and none.
func finders() []*finder {
	all := map[int]bool{}
	for n := -5; n < 6; n++ {
		all[n] = true
	}
	return []*finder{
		nil,
		{},
		{found: all},
		{found: map[int]bool{1: true, 2: true}, e: map[int]api.Errno{2: api.ErrFuel, 3: api.ErrRegex}},
		{found: all, e: map[int]api.Errno{0: api.ErrArg, 1: api.ErrFuel, -1: api.ErrRegex}},
	}
}

// P15.1 to P15.3: each address, and each pair of them, at looks of each kind, as the model tells.
func TestAgainstModel(t *testing.T) {
	for _, f := range finders() {
		for _, n := range []int{math.MinInt, -1, 0, 1, 2, 3, math.MaxInt} {
			for _, isLast := range []bool{false, true} {
				for _, one := range addrs() {
					got := holds(one, n, isLast, again(f))
					if want := (model{n, isLast, again(f)}).holds(one); got != want {
						t.Fatalf("Holds(%v) at %d, %v: %s; want %s", one, n, isLast, got, want)
					}
					comparePairs(t, f, n, isLast, one)
				}
			}
		}
	}
}

// comparePairs holds Select of one and of each other address against the model.
func comparePairs(t *testing.T, f *finder, n int, isLast bool, one api.Addr) {
	t.Helper()
	for _, two := range addrs() {
		for _, active := range []bool{false, true} {
			got := selects(one, two, active, n, isLast, again(f))
			if want := (model{n, isLast, again(f)}).selects(one, two, active); got != want {
				t.Fatalf("Select(%v, %v, %v) at %d, %v: %s; want %s", one, two, active, n, isLast, got, want)
			}
		}
	}
}

// P15.2: lines one behind the other, with what on told handed in at the next one.
func TestRowsOfLines(t *testing.T) {
	found := text{lines: 8, found: map[int]string{0: "36", 1: "4", 2: "48", 3: "36", 5: "8", 6: "1", 7: "12345678", -1: "2"}}
	for _, x := range []struct {
		one, two api.Addr
		want     string
	}{
		{none, none, "12345678"},
		{line(3), none, "3"},
		{line(0), none, ""},
		{line(9), none, ""},
		{last, none, "8"},
		{re(0), none, "36"},
		{re(4), none, ""},
		{line(2), line(4), "234"},
		{line(1), line(8), "12345678"},
		{line(1), line(9), "12345678+"},
		{line(4), line(4), "4"},
		{line(5), line(3), "5"},
		{line(5), line(0), "5"},
		{line(9), line(3), ""},
		{line(0), line(3), ""},
		{line(1), last, "12345678"},
		{line(8), last, "8"},
		{last, last, "8"},
		{last, line(3), "8"},
		{last, line(9), "8+"},
		{last, re(5), "8+"},
		{none, last, "12345678"},
		{none, line(3), "12345678"},
		{none, line(9), "12345678+"},
		{none, re(0), "12345678+"},
		{re(0), re(0), "3456"},
		{re(0), re(3), "3456"},
		{re(0), re(1), "34678+"},
		{re(0), re(2), "34678"},
		{re(1), re(0), "456"},
		{re(0), re(4), "345678+"},
		{re(4), re(0), ""},
		{re(4), re(4), ""},
		{re(7), re(7), "12345678"},
		{re(6), re(7), "12"},
		{re(5), re(5), "8+"},
		{re(0), line(4), "346"},
		{re(0), line(2), "36"},
		{re(0), last, "345678"},
		{line(3), re(0), "3456"},
		{line(3), re(1), "34"},
		{re(-1), re(1), "234"},
	} {
		got, e := found.chosen(x.one, x.two)
		if got != x.want || e != api.OK {
			t.Errorf("%v, %v chose %s, %d; want %s", x.one, x.two, got, e, x.want)
		}
		if want := found.want(x.one, x.two); want != x.want {
			t.Errorf("the test of %v, %v tells %s; the table %s", x.one, x.two, want, x.want)
		}
	}
}

// P15.2: all pairs over texts of up to 9 lines, in which regular expressions are found by chance, as whole rows tell.
func TestChanceRows(t *testing.T) {
	x := numbers(15)
	for range 400 {
		some := text{lines: 1 + x.Intn(9), found: map[int]string{}}
		for r := -1; r < 3; r++ {
			var row strings.Builder
			for n := range some.lines {
				if x.Intn(3) == 0 {
					row.WriteByte(byte('1' + n))
				}
			}
			some.found[r] = row.String()
		}
		all := []api.Addr{none, last}
		for n := range 11 {
			all = append(all, line(n))
		}
		for r := -1; r < 4; r++ {
			all = append(all, re(r))
		}
		for _, one := range all {
			for _, two := range all {
				got, e := some.chosen(one, two)
				if want := some.want(one, two); got != want || e != api.OK {
					t.Fatalf("%v, %v of %v chose %s, %d; want %s", one, two, some, got, e, want)
				}
			}
		}
	}
}

// P15.2: what on told in one line says nothing in a call that isn't told of it: calls keep nothing.
func TestNothingIsKept(t *testing.T) {
	for range 3 {
		for _, x := range []struct {
			active bool
			n      int
			want   string
		}{
			{false, 2, "true true 0"},
			{false, 3, "false false 0"},
			{true, 3, "true true 0"},
			{true, 4, "true false 0"},
			{false, 4, "false false 0"},
			{true, 9, "true false 0"},
		} {
			if got := selects(line(2), line(4), x.active, x.n, false, &finder{}); got != x.want {
				t.Errorf("2,4 at %d, %v: %s; want %s", x.n, x.active, got, x.want)
			}
		}
	}
}
