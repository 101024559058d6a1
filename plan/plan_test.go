package plan

import (
	"fmt"
	"math"
	"reflect"
	"slices"
	"strings"
	"testing"

	"aviary/api"
	"aviary/op"
	"aviary/route"
)

// The calls, as the chapter writes them; with Vote's and Plan's fields in its order.
var (
	_ func(*route.Table, op.Request) (Plan, api.Errno)      = Make
	_ func(Plan) bool                                       = Plan.Local
	_ func(Plan) int                                        = Plan.First
	_ func(Plan, int) []api.Op                              = Plan.Ops
	_ func(Plan, ...Vote) (api.Errno, int)                  = Plan.Verdict
	_ func(Plan, ...[]api.Result) ([]api.Result, api.Errno) = Plan.Results
	_ struct {
		Err api.Errno
		At  int
	} = Vote{}
	_ struct {
		Request op.Request
		Shards  []int
		Places  [][]int
	} = Plan{}
)

// tableOf makes a table without anything moved.
func tableOf(t *testing.T, shards int) *route.Table {
	t.Helper()
	x, e := route.New(shards)
	if e != api.OK {
		t.Fatalf("New(%d): %d", shards, e)
	}
	return x
}

// lettered makes one of four shards: a is 0's, b 1's, c 2's, d 3's.
func lettered(t *testing.T) *route.Table {
	t.Helper()
	x := tableOf(t, 4)
	for shard, top := range []string{"a", "b", "c", "d"} {
		moves(t, x, top, shard)
	}
	return x
}

func moves(t *testing.T, x *route.Table, top string, shard int) {
	t.Helper()
	if e := x.Move(top, shard); e != api.OK {
		t.Fatalf("Move(%q, %d): %d", top, shard, e)
	}
}

// asks makes a request of Checks of these paths.
func asks(paths ...string) op.Request {
	r := op.Request{Sess: 3, Num: 7}
	for i, p := range paths {
		r.Ops = append(r.Ops, api.Op{Kind: api.Check, Path: p, Version: i - 1})
	}
	return r
}

// makes makes a plan that may be.
func makes(t *testing.T, x *route.Table, r op.Request) Plan {
	t.Helper()
	p, e := Make(x, r)
	if e != api.OK {
		t.Fatalf("Make(%v): %d", r, e)
	}
	return p
}

// planned makes a plan by the lettered table.
func planned(t *testing.T, paths ...string) Plan {
	t.Helper()
	return makes(t, lettered(t), asks(paths...))
}

// The chapter's example.
func TestExample(t *testing.T) {
	for _, c := range []struct {
		paths []string
		at    int
	}{{[]string{"/a", "/b"}, 1}, {[]string{"/b", "/a"}, 0}, {[]string{"/a", "/a/x", "/b", "/a/y", "/b/x"}, 2}, {[]string{"/a", "/d", "/d/x"}, 1}} {
		p := planned(t, c.paths...)
		if e, at := p.Verdict(Vote{api.OK, -1}, Vote{api.ENONE, 0}); e != api.ENONE || at != c.at {
			t.Errorf("of %q: %d %d, want ENONE, %d", c.paths, e, at, c.at)
		}
	}
}

// P19.1, R2: what op's May does not let be has its error, and no plan.
func TestMakeRefuses(t *testing.T) {
	good := api.Op{Kind: api.Create, Path: "/a"}
	get := api.Op{Kind: api.Get, Path: "/a"}
	many := slices.Repeat([]api.Op{good}, api.MaxOps+1)
	long := api.Op{Kind: api.Create, Path: "/a", Data: strings.Repeat("x", api.MaxData+1)}
	bad := api.Op{Kind: api.Create, Path: "/a/"}
	for i, c := range []struct {
		sess, num int64
		ops       []api.Op
		e         api.Errno
	}{
		{0, 1, []api.Op{good}, api.EARG}, {-1, 1, []api.Op{good}, api.EARG}, {math.MinInt64, 1, []api.Op{good}, api.EARG},
		{1, 0, []api.Op{good}, api.EARG}, {1, -1, []api.Op{good}, api.EARG}, {1, math.MinInt64, []api.Op{good}, api.EARG},
		{1, 1, nil, api.EARG}, {1, 1, []api.Op{}, api.EARG}, {0, 0, nil, api.EARG}, {0, 1, many, api.EARG},
		{1, 1, many, api.ELIMIT}, {1, 1, make([]api.Op, 17), api.ELIMIT}, {1, 1, make([]api.Op, 1<<16), api.ELIMIT},
		{1, 1, []api.Op{{}}, api.EARG}, {1, 1, []api.Op{{Kind: 8, Path: "/a"}}, api.EARG}, {1, 1, []api.Op{{Kind: -1, Path: "/a"}}, api.EARG},
		{1, 1, []api.Op{bad}, api.EARG}, {1, 1, []api.Op{{Kind: api.Get}}, api.EARG}, {1, 1, []api.Op{{Kind: api.Delete, Path: "/a", Version: -2}}, api.EARG},
		{1, 1, []api.Op{{Kind: api.Create, Path: "/a", Flags: 4}}, api.EARG}, {1, 1, []api.Op{{Kind: api.Create, Path: "/a", Flags: 2}}, api.EARG},
		{1, 1, []api.Op{{Kind: api.Check, Path: "/a", Data: "x"}}, api.EARG}, {1, 1, []api.Op{{Kind: api.Get, Path: "/a", Version: 1}}, api.EARG},
		{1, 1, []api.Op{long}, api.ELIMIT}, {1, 1, []api.Op{good, long}, api.ELIMIT}, {1, 1, []api.Op{good, long, bad}, api.ELIMIT}, {1, 1, []api.Op{good, bad, long}, api.EARG},
		{1, 1, []api.Op{good, get}, api.EARG}, {1, 1, []api.Op{get, good}, api.EARG}, {1, 1, []api.Op{get, get}, api.EARG}, {1, 1, []api.Op{get, long}, api.ELIMIT},
		{1, 1, []api.Op{good, {Kind: api.Exists, Path: "/b"}}, api.EARG}, {1, 1, []api.Op{good, {Kind: api.Children, Path: "/b"}}, api.EARG},
	} {
		x := lettered(t)
		before := x.Put()
		p, e := Make(x, op.Request{Sess: c.sess, Num: c.num, Ops: c.ops})
		if e != c.e || !reflect.DeepEqual(p, Plan{}) {
			t.Errorf("number %d: %v, %d, want nothing, %d", i, p, e, c.e)
		}
		if p.First() != -1 || p.Local() || len(p.Ops(0)) != 0 {
			t.Errorf("number %d: First %d, Local %t, %d Ops", i, p.First(), p.Local(), len(p.Ops(0)))
		}
		if string(x.Put()) != string(before) {
			t.Errorf("number %d: the table has changed", i)
		}
	}
}

// P19.1: the request is the plan's, whatever may be in it, up to the limits.
func TestMakeKeepsTheRequest(t *testing.T) {
	full := slices.Repeat([]api.Op{{Kind: api.Create, Path: "/a/b", Data: strings.Repeat("x", api.MaxData), Flags: 3}}, api.MaxOps)
	for _, r := range []op.Request{
		{Sess: math.MaxInt64, Num: math.MaxInt64, Ops: full},
		{Sess: 1, Num: math.MaxInt64, Ops: []api.Op{{Kind: api.Get, Path: "/b"}}},
		{Sess: math.MaxInt64, Num: 1, Ops: []api.Op{{Kind: api.Exists, Path: strings.Repeat("/"+strings.Repeat("x", 24), 8)}}},
		{Sess: 2, Num: 3, Ops: []api.Op{{Kind: api.Children, Path: "/d"}}},
		{Sess: 2, Num: 3, Ops: []api.Op{{Kind: api.Set, Path: "/d", Data: "y", Version: math.MaxInt}, {Kind: api.Delete, Path: "/a", Version: -1}, {Kind: api.Check, Path: "/b"}}},
	} {
		x := lettered(t)
		holds(t, "at a limit", makes(t, x, r), modelOf(x, r))
	}
}

// P19.1: Shards rise and are those that have one of the paths; Places are theirs, rising.
func TestMakeSplits(t *testing.T) {
	for _, c := range []struct {
		paths          []string
		shards, places string
	}{
		{[]string{"/a"}, "[0]", "[[0]]"}, {[]string{"/d"}, "[3]", "[[0]]"}, {[]string{"/c", "/c/x", "/c"}, "[2]", "[[0 1 2]]"},
		{[]string{"/a", "/b"}, "[0 1]", "[[0] [1]]"}, {[]string{"/b", "/a"}, "[0 1]", "[[1] [0]]"}, {[]string{"/d", "/b", "/d/b", "/b/d"}, "[1 3]", "[[1 3] [0 2]]"},
		{[]string{"/c", "/c/x", "/a", "/c/y"}, "[0 2]", "[[2] [0 1 3]]"}, {[]string{"/d", "/c", "/b", "/d/x"}, "[1 2 3]", "[[2] [1] [0 3]]"},
		{[]string{"/d", "/c", "/b", "/a"}, "[0 1 2 3]", "[[3] [2] [1] [0]]"}, {[]string{"/a", "/b", "/c", "/d", "/a/d", "/b/c", "/c/b", "/d/a"}, "[0 1 2 3]", "[[0 4] [1 5] [2 6] [3 7]]"},
		{[]string{"/d", "/d", "/d", "/d", "/d", "/d", "/d", "/d", "/d", "/d", "/d", "/d", "/d", "/d", "/d", "/a"}, "[0 3]", "[[15] [0 1 2 3 4 5 6 7 8 9 10 11 12 13 14]]"},
		{[]string{"/e", "/ab", "/aa"}, "[1 2 3]", "[[0] [2] [1]]"}, // 101, 195, 194 modulo 4
	} {
		p := planned(t, c.paths...)
		if s := fmt.Sprint(p.Shards); s != c.shards || fmt.Sprint(p.Places) != c.places {
			t.Errorf("of %q: Shards %s, Places %v, want %s, %s", c.paths, s, p.Places, c.shards, c.places)
		}
		holds(t, strings.Join(c.paths, " "), p, modelOf(lettered(t), asks(c.paths...)))
	}
}

// P19.1: as many shards as the table has, from one to MaxShard.
func TestMakeByTables(t *testing.T) {
	want := []string{"[0] [[0 1 2 3 4]]", "[0 1] [[1 3] [0 2 4]]", "[0 1 2] [[2] [0 3] [1 4]]", "[0 1 2 3] [[3] [0 4] [1] [2]]"}
	for shards := 1; shards <= api.MaxShard; shards++ {
		p := makes(t, tableOf(t, shards), asks("/a", "/b", "/c", "/d", "/e"))
		if s := fmt.Sprint(p.Shards, p.Places); s != want[shards-1] {
			t.Errorf("of %d shards: %s, want %s", shards, s, want[shards-1])
		}
	}
}

// P19.1: whose a path is hangs on what was moved ahead of Make; what is moved behind it the plan does not know.
func TestMakeBehindMoves(t *testing.T) {
	x, r := lettered(t), asks("/a", "/b", "/a/x", "/q")
	first := makes(t, x, r)
	moves(t, x, "a", 3)
	moves(t, x, "q", 0)
	second := makes(t, x, r)
	moves(t, x, "b", 3)
	moves(t, x, "q", 3)
	third := makes(t, x, r)
	before := x.Put()
	for i, c := range []struct {
		p     Plan
		want  string
		local bool
	}{{first, "[0 1] [[0 2] [1 3]]", false}, {second, "[0 1 3] [[3] [1] [0 2]]", false}, {third, "[3] [[0 1 2 3]]", true}} {
		if s := fmt.Sprint(c.p.Shards, c.p.Places); s != c.want || c.p.Local() != c.local {
			t.Errorf("number %d: %s, Local %t, want %s", i, s, c.p.Local(), c.want)
		}
	}
	if string(x.Put()) != string(before) {
		t.Errorf("Make has changed the table")
	}
}

// P19.1: Local is one shard's alone, however many Ops there are; First is the least shard, whatever stands first.
func TestLocalAndFirst(t *testing.T) {
	for _, c := range []struct {
		paths []string
		local bool
		first int
	}{
		{[]string{"/a"}, true, 0}, {[]string{"/b"}, true, 1}, {[]string{"/d"}, true, 3}, {[]string{"/c", "/c/x", "/c"}, true, 2}, {[]string{"/d", "/d"}, true, 3},
		{[]string{"/a", "/b"}, false, 0}, {[]string{"/d", "/b"}, false, 1}, {[]string{"/d", "/c", "/d"}, false, 2}, {[]string{"/d", "/c", "/b", "/a"}, false, 0},
	} {
		if p := planned(t, c.paths...); p.Local() != c.local || p.First() != c.first {
			t.Errorf("of %q: Local %t, First %d, want %t, %d", c.paths, p.Local(), p.First(), c.local, c.first)
		}
	}
	if none := (Plan{}); none.Local() || none.First() != -1 {
		t.Errorf("of none: Local %t, First %d", none.Local(), none.First())
	}
}

// P19.1: Ops are a shard's, in their order; none of one that has none, nor of a number that is no shard's.
func TestOps(t *testing.T) {
	r := op.Request{Sess: 1, Num: 1, Ops: []api.Op{
		{Kind: api.Set, Path: "/d", Data: "x", Version: 4}, {Kind: api.Create, Path: "/b/s", Data: "y", Flags: 3}, {Kind: api.Delete, Path: "/d/a", Version: -1},
		{Kind: api.Check, Path: "/b", Version: 2}, {Kind: api.Create, Path: "/d/a"}, {Kind: api.Set, Path: "/d", Data: "x", Version: 4},
	}}
	p := makes(t, lettered(t), r)
	for shard, want := range map[int][]api.Op{
		1: {r.Ops[1], r.Ops[3]}, 3: {r.Ops[0], r.Ops[2], r.Ops[4], r.Ops[5]},
		0: nil, 2: nil, 4: nil, 5: nil, -1: nil, -2: nil, -3: nil, 1 << 32: nil, 1<<32 + 1: nil, math.MaxInt: nil, math.MinInt: nil, math.MinInt + 1: nil,
	} {
		if got := p.Ops(shard); !slices.Equal(got, want) {
			t.Errorf("Ops(%d): %v, want %v", shard, got, want)
		}
		if got := (Plan{}).Ops(shard); len(got) != 0 {
			t.Errorf("of none: Ops(%d): %v", shard, got)
		}
	}
}

// R4: Make neither changes nor keeps the list that it is handed, spare room included.
func TestMakeLeavesItsList(t *testing.T) {
	r := asks("/b", "/a", "/b/x", "/c", "/d")
	whole := slices.Clone(r.Ops)
	x := lettered(t)
	p := makes(t, x, op.Request{Sess: 3, Num: 7, Ops: whole[:3]})
	if !slices.Equal(whole, r.Ops) {
		t.Errorf("Make has made %v of the list", whole)
	}
	clear(whole)
	r.Ops = r.Ops[:3]
	holds(t, "behind another list", p, modelOf(x, r))
}

// R4: what Make hands out is the caller's, spare room too: no two lists of a plan, or of two plans, share any.
func TestMadeIsTheCallers(t *testing.T) {
	x, r := lettered(t), asks("/d", "/c", "/b", "/a", "/a/x", "/b/x", "/c/x", "/d/x", "/a/y")
	for i := range 4 {
		p, other := makes(t, x, r), makes(t, x, r)
		want := fmt.Sprint(other.Places)
		fill(p.Places[i], 99)
		p.Places[i] = other.Places[i]
		if fmt.Sprint(p.Places) != want {
			t.Errorf("Places %d share room with others: %v", i, p.Places)
		}
		fill(p.Shards, 99)
		clear(p.Request.Ops[:cap(p.Request.Ops)])
		clear(p.Places[:cap(p.Places)])
		holds(t, "another plan", other, modelOf(x, asks("/d", "/c", "/b", "/a", "/a/x", "/b/x", "/c/x", "/d/x", "/a/y")))
		holds(t, "one made behind it", makes(t, x, r), modelOf(x, r))
	}
}

// fill writes a number to a list, spare room included.
func fill(list []int, n int) {
	for i := range list[:cap(list)] {
		list[:cap(list)][i] = n
	}
}

// R4: what Ops hands out is the caller's, spare room too.
func TestOpsAreTheCallers(t *testing.T) {
	x, r := lettered(t), asks("/b", "/a", "/b/x", "/a/x", "/a/y")
	p := makes(t, x, r)
	for shard := range 2 {
		list, other := p.Ops(shard), p.Ops(shard)
		want := slices.Clone(other)
		clear(list[:cap(list)])
		if !slices.Equal(other, want) {
			t.Errorf("two lists of Ops that were handed out are one: %v", other)
		}
		holds(t, "behind what was done to Ops", p, modelOf(x, r))
	}
	local := makes(t, x, asks("/c", "/c/x"))
	clear(local.Ops(2))
	holds(t, "of one shard", local, modelOf(x, asks("/c", "/c/x")))
}

// R1, R4: whatever a Plan's fields are set to, each call ends, and none panics, nor changes them.
func TestPlansOfAnyFields(t *testing.T) {
	shards := [][]int{nil, {0}, {0, 1}, {1, 0}, {1, 1}, {-1, 0}, {math.MinInt, math.MaxInt, 7}}
	places := [][][]int{nil, {nil}, {{0}}, {{0}, {1}}, {{0, 0}, {0}}, {{-1}, {2}}, {{math.MinInt, 1, math.MaxInt}, nil}, {{1 << 40}}, {{2, 1, 0}, {0, 1, 2}, {5}, {6}}}
	for _, ops := range [][]api.Op{nil, {{}}, asks("/a", "?").Ops} {
		for _, s := range shards {
			for _, at := range places {
				p := Plan{op.Request{Ops: ops}, s, at}
				before := fmt.Sprint(p)
				for _, shard := range []int{-1, 0, 1, 7, math.MinInt, math.MaxInt} {
					if got := p.Ops(shard); len(got) > 0 && !slices.Contains(s, shard) {
						t.Errorf("%v: Ops(%d): %v", p, shard, got)
					}
				}
				p.Local()
				p.First()
				for n := range 4 {
					holdsAnyVotes(t, p, n)
					p.Results(make([][]api.Result, n)...)
					p.Results(slices.Repeat([][]api.Result{resultsOf("x", 1)}, n)...)
				}
				if got := fmt.Sprint(p); got != before {
					t.Errorf("what was %s is %s", before, got)
				}
			}
		}
	}
}

// holdsAnyVotes holds n votes of a Plan of any fields: what is told is one of its request's places, or -1.
func holdsAnyVotes(t *testing.T, p Plan, n int) {
	t.Helper()
	for _, at := range []int{-1, 0, 1, 2, 3, math.MinInt, math.MaxInt} {
		e, told := p.Verdict(slices.Repeat([]Vote{{api.ENONE, at}}, n)...)
		if told < -1 || told >= len(p.Request.Ops) || n != len(p.Shards) && (e != api.EARG || told != -1) {
			t.Errorf("%v: Verdict of %d votes at %d: %d %d", p, n, at, e, told)
		}
	}
}
