package multi

import (
	"fmt"
	"math"
	"math/rand"
	"slices"
	"strings"
	"testing"
	"unsafe"

	"aviary/api"
	"aviary/op"
	"aviary/reply"
	"aviary/stat"
	"aviary/tree"
)

// failed is the reply of n Ops, the one at a place with an error (-1: none of them, and none is told).
func failed(e api.Errno, at, n int) reply.Reply {
	r := reply.Reply{Err: e, At: at}
	for i := range n {
		if i == at {
			r.Results = append(r.Results, api.Result{Err: e})
		} else {
			r.Results = append(r.Results, api.Result{Err: api.ESKIP})
		}
	}
	return r
}

// refuses asks that Do refuses, with that reply, and that nothing of the tree tells of it, now or later.
func refuses(t testing.TB, what string, x *tree.Tree, sess, zxid int64, ops []api.Op, w reply.Reply) {
	t.Helper()
	twin, room, before := x.Copy(), left(x), state(x)
	r, ok := Do(x, sess, zxid, ops...)
	if ok {
		t.Errorf("%s: true", what)
	}
	wantReply(t, what, r, w)
	if s := state(x); s != before || left(x) != room {
		t.Fatalf("%s: the tree is\n%s, and was\n%s", what, s, before)
	}
	if a, b := goesOn(x.Copy()), goesOn(twin); a != b {
		t.Fatalf("%s: the tree goes on as\n%s, not as\n%s", what, a, b)
	}
}

// by does Ops by tree's Do, one behind the other, and tells what Do should, and the tree that should be there.
func by(x *tree.Tree, sess, zxid int64, ops []api.Op) (reply.Reply, bool, *tree.Tree) {
	c := x.Copy()
	w := reply.Reply{Zxid: zxid, At: -1}
	for at, o := range ops {
		r := c.Do(o, sess, zxid)
		if r.Err != api.OK {
			return failed(r.Err, at, len(ops)), false, x.Copy()
		}
		w.Results = append(w.Results, r)
	}
	return w, true, c
}

// does asks that Do does all of the Ops, as tree's Do does them.
func does(t testing.TB, what string, x *tree.Tree, sess, zxid int64, ops []api.Op) reply.Reply {
	t.Helper()
	w, good, then := by(x, sess, zxid, ops)
	if !good {
		t.Fatalf("%s: the test's own Ops fail: %s", what, tellReply(w))
	}
	r, ok := Do(x, sess, zxid, ops...)
	if !ok {
		t.Errorf("%s: false", what)
	}
	wantReply(t, what, r, w)
	if a, b := state(x), state(then); a != b || left(x) != left(then) {
		t.Fatalf("%s: the tree is\n%s, want\n%s", what, a, b)
	}
	if a, b := goesOn(x.Copy()), goesOn(then); a != b {
		t.Fatalf("%s: the tree goes on as\n%s, not as\n%s", what, a, b)
	}
	return r
}

// P12.1: the chapter's example; Do is variadic.
func TestExample(t *testing.T) {
	x := empty(t, 5)
	r, ok := Do(x, 1, 1, create("/a", "", 0), create("/a", "", 0))
	if ok || r.Err != api.EEXIST || r.At != 1 || x.Len() != 0 {
		t.Errorf("%v, %s", ok, tellReply(r))
	}
}

// P12.1: no Op is EARG, more than MaxOps ELIMIT, whatever they are and whoever asks; no place, no Results.
func TestDoCounts(t *testing.T) {
	x := busy(t, 20)
	var fresh []api.Op
	for i := range 40 {
		fresh = append(fresh, create(fmt.Sprintf("/q%d", i), "", 0))
	}
	for _, by := range [][2]int64{{1, 50}, {1, 0}, {0, 50}, {-1, 50}, {1, -1}, {0, -1}, {math.MinInt64, math.MinInt64}, {math.MaxInt64, math.MaxInt64}} {
		refuses(t, "nil", x, by[0], by[1], nil, reply.Reply{Err: api.EARG, At: -1})
		refuses(t, "an empty list", x, by[0], by[1], []api.Op{}, reply.Reply{Err: api.EARG, At: -1})
		refuses(t, "an empty list with room", x, by[0], by[1], fresh[:0], reply.Reply{Err: api.EARG, At: -1})
		for _, n := range []int{17, 18, 32, 40} {
			refuses(t, "too many", x, by[0], by[1], fresh[:n], reply.Reply{Err: api.ELIMIT, At: -1})
			refuses(t, "too many that are none", x, by[0], by[1], make([]api.Op, n), reply.Reply{Err: api.ELIMIT, At: -1})
		}
	}
	refuses(t, "very many", x, 1, 50, make([]api.Op, 1<<16), reply.Reply{Err: api.ELIMIT, At: -1})
	if r, ok := Do(x, 1, 50); ok || tellReply(r) != tellReply(reply.Reply{Err: api.EARG, At: -1}) {
		t.Errorf("Do without an Op: %v, %s", ok, tellReply(r))
	}
	for n := 1; n <= 16; n++ {
		x := busy(t, 20)
		r := does(t, "as many as may be", x, 1, 50, fresh[:n])
		if len(r.Results) != n || x.Len() != busyNodes+n {
			t.Errorf("%d of %d Results, %d nodes", len(r.Results), n, x.Len())
		}
	}
}

// P12.1: each Kind by itself: the whole reply, and what is there behind it.
func TestDoOfOne(t *testing.T) {
	laid := with(0, "b", "d", "f").Stat
	a := api.Stat{Made: 5, Changed: 10, Version: 1, Kids: 3, Length: 1, Count: 3}
	for _, c := range []struct {
		o    api.Op
		sess int64
		w    api.Result
	}{
		{create("/q", "abc", 0), 4, api.Result{Path: "/q", Stat: api.Stat{Made: 50, Changed: 50, Length: 3}}},
		{create("/q", "", 1), 4, api.Result{Path: "/q", Stat: api.Stat{Made: 50, Changed: 50, Owner: 4}}},
		{create("/a/q", "", 2), 4, api.Result{Path: "/a/q0000000003", Stat: api.Stat{Made: 50, Changed: 50}}},
		{create("/laid/q", "x", 3), math.MaxInt64, api.Result{Path: "/laid/q0000000016", Stat: api.Stat{Made: 50, Changed: 50, Owner: math.MaxInt64, Length: 1}}},
		{remove("/a/e", -1), 4, api.Result{Path: "/a/e"}},
		{remove("/un/der", 13), 4, api.Result{Path: "/un/der"}},
		{set("/a", "four", 1), 4, api.Result{Path: "/a", Stat: api.Stat{Made: 5, Changed: 50, Version: 2, Kids: 3, Length: 4, Count: 3}}},
		{set("/e", "", -1), 4, api.Result{Path: "/e", Stat: api.Stat{Made: 11, Changed: 50, Version: 1, Owner: 7}}},
		{check("/a", 1), 4, api.Result{Path: "/a"}},
		{check("/laid", -1), 4, api.Result{Path: "/laid"}},
		{get("/a"), 4, api.Result{Path: "/a", Data: "z", Stat: a}},
		{get("/laid"), 4, api.Result{Path: "/laid", Data: "x\xff\x00é", Stat: laid}},
		{exists("/a"), 4, api.Result{Path: "/a", Stat: a}},
		{children("/a"), 4, api.Result{Path: "/a", Names: []string{"e", "k", "s0000000002"}, Stat: a}},
		{children("/laid"), 4, api.Result{Path: "/laid", Names: []string{"b", "d", "f"}, Stat: laid}},
		{children("/e"), 4, api.Result{Path: "/e", Stat: api.Stat{Made: 11, Changed: 11, Owner: 7}}},
	} {
		r := does(t, fmt.Sprint(c.o), busy(t, 3), c.sess, 50, []api.Op{c.o})
		wantReply(t, fmt.Sprint(c.o), r, reply.Reply{Zxid: 50, At: -1, Results: []api.Result{c.w}})
	}
}

// P12.1: sess and zxid are tree's Do's: at their edges all is well.
func TestDoSessAndZxid(t *testing.T) {
	for _, c := range [][2]int64{{1, 0}, {1, 1}, {1 << 32, 1 << 32}, {math.MaxInt64, math.MaxInt64}} {
		x := empty(t, 3)
		r, ok := Do(x, c[0], c[1], create("/a", "", 1), create("/b", "", 0))
		made := api.Stat{Made: c[1], Changed: c[1]}
		owned := made
		owned.Owner = c[0]
		wantReply(t, fmt.Sprint(c), r, reply.Reply{Zxid: c[1], At: -1, Results: []api.Result{{Path: "/a", Stat: owned}, {Path: "/b", Stat: made}}})
		if !ok {
			t.Errorf("%d: false", c)
		}
		wantNode(t, x, "/a", stat.Node{Stat: owned})
		wantNode(t, x, "/b", stat.Node{Stat: made})
	}
}

// P12.1: a Do of each Kind, each Op seeing what those ahead of it did: the whole reply, and every node behind it.
func TestDoSeesWhatIsAhead(t *testing.T) {
	x := empty(t, 4)
	r, ok := Do(x, 3, 9,
		create("/a", "x", 0), create("/a/b", "", 0), create("/a/s", "one", 2), create("/a/s", "", 3), children("/a"), set("/a", "yy", 0), check("/a", 1),
		get("/a"), remove("/a/b", 0), exists("/a"), create("/a/s", "", 3), remove("/a/s0000000001", -1), set("/a", "", 1), set("/a", "zzz", 2), create("/t", "", 1), children("/a"))
	stats := func(version, kids, length, count int) api.Stat {
		return api.Stat{Made: 9, Changed: 9, Version: version, Kids: kids, Length: length, Count: count}
	}
	owned := api.Stat{Made: 9, Changed: 9, Owner: 3}
	wantReply(t, "all of it", r, reply.Reply{Zxid: 9, At: -1, Results: []api.Result{
		{Path: "/a", Stat: stats(0, 0, 1, 0)}, {Path: "/a/b", Stat: stats(0, 0, 0, 0)}, {Path: "/a/s0000000001", Stat: stats(0, 0, 3, 0)}, {Path: "/a/s0000000002", Stat: owned},
		{Path: "/a", Names: []string{"b", "s0000000001", "s0000000002"}, Stat: stats(0, 3, 1, 3)}, {Path: "/a", Stat: stats(1, 3, 2, 3)}, {Path: "/a"},
		{Path: "/a", Data: "yy", Stat: stats(1, 3, 2, 3)}, {Path: "/a/b"}, {Path: "/a", Stat: stats(1, 4, 2, 2)}, {Path: "/a/s0000000003", Stat: owned}, {Path: "/a/s0000000001"},
		{Path: "/a", Stat: stats(2, 6, 0, 2)}, {Path: "/a", Stat: stats(3, 6, 3, 2)}, {Path: "/t", Stat: owned},
		{Path: "/a", Names: []string{"s0000000002", "s0000000003"}, Stat: stats(3, 6, 3, 2)},
	}})
	if !ok {
		t.Errorf("false")
	}
	wantPaths(t, x, "/a", "/a/s0000000002", "/a/s0000000003", "/t")
	wantNode(t, x, "/a", stat.Node{Stat: stats(3, 6, 3, 2), Data: "zzz", Next: 4, Names: []string{"s0000000002", "s0000000003"}})
	wantNode(t, x, "/a/s0000000002", stat.Node{Stat: owned})
	wantNode(t, x, "/a/s0000000003", stat.Node{Stat: owned})
	wantNode(t, x, "/t", stat.Node{Stat: owned})
	// What is done next sees it, by another transaction.
	r, ok = Do(x, 3, 10, remove("/t", 0), create("/a/s", "", 2), check("/a", 3))
	wantReply(t, "the next", r, reply.Reply{Zxid: 10, At: -1, Results: []api.Result{{Path: "/t"}, {Path: "/a/s0000000004", Stat: api.Stat{Made: 10, Changed: 10}}, {Path: "/a"}}})
	if !ok {
		t.Errorf("the next: false")
	}
	wantPaths(t, x, "/a", "/a/s0000000002", "/a/s0000000003", "/a/s0000000004")
	wantNode(t, x, "/a", stat.Node{Stat: stats(3, 7, 3, 3), Data: "zzz", Next: 5, Names: []string{"s0000000002", "s0000000003", "s0000000004"}})
}

// P12.1: Ops that would fail by themselves, but for those ahead of them.
func TestDoNeedsWhatIsAhead(t *testing.T) {
	for what, ops := range map[string][]api.Op{
		"a Parent":              {create("/q", "", 0), create("/q/r", "", 0), create("/q/r/s", "", 2), create("/q/r/s0000000000/t", "", 3)},
		"no Names":              {remove("/a/e", -1), remove("/a/s0000000002", 0), remove("/a/k/deep0000000000", -1), remove("/a/k", 0), remove("/a", 1)},
		"a path that is free":   {remove("/e", 0), create("/e", "", 0), create("/e/x", "", 0)},
		"a number that is free": {remove("/have/s0000000005", 13), create("/have/s", "", 2)},
		"a number that goes on": {create("/have/t", "", 2), create("/have/s", "", 2)},
		"its Version":           {set("/a", "", 1), set("/a", "", 2), check("/a", 3), set("/a", "", 3), check("/a", 4)},
		"its first Version":     {remove("/un/der", 13), create("/un", "", 0), create("/un/der", "", 0), set("/un/der", "x", 0), remove("/un/der", 1)},
		"a node that is read":   {create("/q", "d", 0), get("/q"), exists("/q"), children("/q")},
		"a Parent of its own":   {remove("/eph", 0), create("/eph", "", 0), create("/eph/x", "", 1)},
		"the same, by turns":    {create("/q", "", 1), remove("/q", 0), create("/q", "", 1), remove("/q", 0), create("/q", "", 0)},
	} {
		does(t, what, busy(t, 4), 1, 50, ops)
	}
	x := busy(t, 0)
	does(t, "room", x, 1, 50, []api.Op{remove("/e", 0), create("/f", "", 1), remove("/f", 0), create("/a/g", "", 2)})
	if left(x) != 0 {
		t.Errorf("room for %d", left(x))
	}
}

// P12.1: Ops that fail as they do only for those ahead of them.
func TestDoFailsByWhatIsAhead(t *testing.T) {
	for what, c := range map[string]struct {
		more int
		ops  []api.Op
		e    api.Errno
	}{
		"EEXIST":             {9, []api.Op{create("/q", "", 0), create("/q", "", 0)}, api.EEXIST},
		"EEXIST of one made": {9, []api.Op{set("/a", "", -1), create("/a/n", "", 2), create("/a/n0000000003", "", 0)}, api.EEXIST},
		"ENONE":              {9, []api.Op{remove("/a/e", 0), set("/a/e", "", 0)}, api.ENONE},
		"ENONE of a Parent":  {9, []api.Op{remove("/have/s0000000005", -1), remove("/have", -1), create("/have/x", "", 0)}, api.ENONE},
		"ENONE of a read":    {9, []api.Op{create("/q", "", 0), remove("/e", -1), get("/e")}, api.ENONE},
		"EVERSION":           {9, []api.Op{create("/a/n", "", 2), set("/a", "", 1), set("/a", "", 1)}, api.EVERSION},
		"EVERSION, anew":     {9, []api.Op{remove("/un/der", 13), create("/un", "", 0), create("/un/der", "", 0), check("/un/der", 13)}, api.EVERSION},
		"EKIDS":              {9, []api.Op{create("/q", "", 0), create("/q/x", "", 2), remove("/q", 0)}, api.EKIDS},
		"EEPH":               {9, []api.Op{create("/q", "", 1), create("/q/x", "", 2)}, api.EEPH},
		"EFULL":              {2, []api.Op{create("/q", "", 1), create("/a/n", "", 2), create("/r", "", 0)}, api.EFULL},
		"EFULL of a number":  {1, []api.Op{remove("/e", -1), create("/e", "", 1), create("/a/n", "", 2), create("/a/n", "", 2)}, api.EFULL},
	} {
		x := busy(t, c.more)
		at := len(c.ops) - 1
		if x.Try(c.ops[at], 1, 50).Err == c.e {
			t.Fatalf("%s: the last one fails so by itself", what)
		}
		refuses(t, what, x, 1, 50, c.ops, failed(c.e, at, len(c.ops)))
		// Without the last one all of it is done: so each of those ahead had something to leave behind.
		does(t, what, x, 1, 50, c.ops[:at])
	}
}

// around are Ops that a busy tree does in this order, nearly all of them changes; they go ahead of and behind one that fails.
var around = []api.Op{
	create("/g", "d", 0), create("/a/n", "1", 2), set("/a", "new", -1), remove("/a/e", -1), create("/g/x", "", 3), create("/a/n", "2", 3), check("/a", 2), set("/a/k", "kk", 0),
	remove("/un/der", 13), create("/laid/b", "", 1), get("/g"), children("/a"), exists("/e"), remove("/e", 0), create("/e", "again", 0),
}

// failures are Ops that fail on a busy tree with these errors, wherever they stand among those around.
var failures = []struct {
	o api.Op
	e api.Errno
}{
	{api.Op{}, api.EARG}, {api.Op{Kind: 8, Path: "/a"}, api.EARG}, {api.Op{Kind: -1, Path: "/a"}, api.EARG}, {create("/q/", "", 0), api.EARG}, {create("", "", 0), api.EARG},
	{create("/q", "", 2), api.EARG}, {create("/q", "", 4), api.EARG}, {create("/a/"+fill(31), "", 2), api.EARG}, {set("/a", "x", -2), api.EARG}, {check("a", -1), api.EARG},
	{api.Op{Kind: api.Get, Path: "/a", Version: -1}, api.EARG}, {api.Op{Kind: api.Delete, Path: "/eph", Data: "x"}, api.EARG}, {api.Op{Kind: api.Children, Path: "/a", Flags: 1}, api.EARG},
	{create("/last/s", "", 2), api.EARG}, {create("/last/s", "", 3), api.EARG},
	{create("/q", fill(1001), 0), api.ELIMIT}, {set("/a", fill(1001), -1), api.ELIMIT}, {set("/no", fill(1<<16), -1), api.ELIMIT}, {api.Op{Kind: api.Get, Path: "/a", Data: fill(1001)}, api.ELIMIT},
	{create("/no/q", "", 0), api.ENONE}, {create("/no/q", "", 2), api.ENONE}, {remove("/no", -1), api.ENONE}, {set("/no", "", -1), api.ENONE}, {check("/no", -1), api.ENONE}, {get("/no"), api.ENONE},
	{exists("/no"), api.ENONE}, {children("/no"), api.ENONE}, {get("/laid/d"), api.ENONE},
	{create("/eph/q", "", 0), api.EEPH}, {create("/eph/q", "", 2), api.EEPH}, {create("/neg/q", "", 1), api.EEPH},
	{create("/a", "", 0), api.EEXIST}, {create("/eph", "", 1), api.EEXIST}, {create("/have/s", "", 2), api.EEXIST}, {create("/have/s0000000005", "", 0), api.EEXIST},
	{remove("/eph", 1), api.EVERSION}, {remove("/a", 99), api.EVERSION}, {set("/a", "x", 0), api.EVERSION}, {check("/laid", math.MaxInt), api.EVERSION},
	{remove("/a", -1), api.EKIDS}, {remove("/laid", 13), api.EKIDS},
}

// placed puts an Op at a place among the first n-1 of those around.
func placed(o api.Op, at, n int) []api.Op { return slices.Insert(slices.Clone(around[:n-1]), at, o) }

// P12.1: one that fails, by each error, at each place of lists of several lengths: the whole reply, and nothing is changed.
func TestDoFails(t *testing.T) {
	x := busy(t, 9)
	for n := 2; n <= 16; n++ {
		does(t, "those around", x.Copy(), 1, 50, around[:n-1]) // but for the one that fails all of it would be done
	}
	for _, c := range failures {
		for _, n := range []int{1, 2, 3, 16} {
			for at := range n {
				refuses(t, fmt.Sprintf("%.60v at %d of %d", c.o, at, n), x, 1, 50, placed(c.o, at, n), failed(c.e, at, n))
			}
		}
	}
}

// P12.1: EFULL likewise: the tree has room for what is ahead, and for no more.
func TestDoFailsFull(t *testing.T) {
	for _, n := range []int{1, 2, 3, 16} {
		for at := range n {
			more := 0
			for _, o := range around[:at] {
				more += map[int]int{api.Create: 1, api.Delete: -1}[o.Kind]
			}
			for _, o := range []api.Op{create("/q", "", 0), create("/q", "", 1), create("/a/q", "", 2), create("/a/q", "", 3)} {
				if more >= 0 && room(around[:at], more) {
					refuses(t, fmt.Sprintf("%v at %d of %d", o, at, n), busy(t, more), 1, 50, placed(o, at, n), failed(api.EFULL, at, n))
				}
			}
		}
	}
}

// room tells whether Ops never need more nodes than so many.
func room(ops []api.Op, more int) bool {
	for _, o := range ops {
		more -= map[int]int{api.Create: 1, api.Delete: -1}[o.Kind]
		if more < 0 {
			return false
		}
	}
	return true
}

// P12.1: of several that fail the first one is told, whatever stands behind it.
func TestDoFailsByTheFirst(t *testing.T) {
	x := busy(t, 9)
	for i, first := range failures {
		for j, second := range failures {
			if i != j {
				refuses(t, fmt.Sprintf("%.60v and %.60v", first.o, second.o), x, 1, 50, []api.Op{create("/g", "", 0), first.o, set("/g", "", 0), second.o}, failed(first.e, 1, 4))
			}
		}
	}
}

// P12.1: a sess below 1 and a zxid below 0 fail at the first Op, by EARG, if op's Good has no other error of it.
func TestDoFailsBySessOrZxid(t *testing.T) {
	x := busy(t, 9)
	for _, c := range [][2]int64{{0, 50}, {-1, 50}, {math.MinInt64, 50}, {1, -1}, {1, math.MinInt64}, {0, -1}, {-1 << 32, 50}, {1, -1 << 32}} {
		for _, n := range []int{1, 2, 3, 15} {
			refuses(t, fmt.Sprint(c), x, c[0], c[1], around[:n], failed(api.EARG, 0, n))
		}
		for _, f := range failures {
			e := api.EARG
			if f.e == api.ELIMIT {
				e = api.ELIMIT
			}
			refuses(t, fmt.Sprintf("%d, %.60v", c, f.o), x, c[0], c[1], []api.Op{f.o, create("/g", "", 0)}, failed(e, 0, 2))
			refuses(t, fmt.Sprintf("%d, %.60v", c, f.o), x, c[0], c[1], []api.Op{create("/g", "", 0), f.o}, failed(api.EARG, 0, 2))
		}
		for _, o := range []api.Op{get("/a"), exists("/a"), children("/a"), check("/a", -1)} {
			refuses(t, fmt.Sprint(c), x, c[0], c[1], []api.Op{o}, failed(api.EARG, 0, 1))
		}
	}
}

// P12.1: numbers that were tried by one that fails are not used up.
func TestDoGivesNumbersBack(t *testing.T) {
	x := empty(t, 9)
	x.Do(create("/a", "", 0), 1, 1)
	for i := range 3 {
		r, ok := Do(x, 1, 2, create("/a/s", "", 2), create("/a/s", "", 3), create("/a", "", 0))
		wantReply(t, "one that fails", r, failed(api.EEXIST, 2, 3))
		if ok {
			t.Errorf("true")
		}
		made := x.Do(create("/a/s", "", 2), 1, 3)
		if w := fmt.Sprintf("/a/s%010d", i); made.Path != w {
			t.Errorf("%s, want %s", made.Path, w)
		}
	}
	wantNode(t, x, "/a", stat.Node{Stat: api.Stat{Made: 1, Changed: 1, Kids: 3, Count: 3}, Next: 3, Names: []string{"s0000000000", "s0000000001", "s0000000002"}})
}

// P12.1: trees as only Load makes them, and a Parent with more than MaxNodes Names: done, and as they were, like others.
func TestDoOfLaidTrees(t *testing.T) {
	x := empty(t, 20)
	deep := strings.Repeat("/d", 8)
	lay(t, x, "/full", with(0, names(500)...))
	lay(t, x, deep, with(7, "x", "y"))
	lay(t, x, "/e", with(7, "k"))
	lay(t, x, "/e/k", with(-3))
	lay(t, x, "/great", stat.Node{Stat: api.Stat{Version: math.MaxInt, Kids: most}, Next: most, Data: fill(5000)})
	does(t, "one Name more", x, 1, 1, []api.Op{create("/full/z", "", 2), create("/full/z", "", 0)})
	if n, _ := x.Node("/full"); n.Count != 502 {
		t.Fatalf("%d Names", n.Count)
	}
	ops := []api.Op{create("/full/y", "", 0), set("/full", "", 13), remove("/e/k", -1), remove("/e", -1), set("/great", "", math.MaxInt), create("/great/s", "", 2), remove("/full/z", 0)}
	refuses(t, "one that fails", x, 1, 2, append(slices.Clone(ops), remove(deep, -1)), failed(api.EKIDS, 7, 8))
	refuses(t, "the greatest number", x, 1, 2, append(slices.Clone(ops), create("/great/s", "", 2)), failed(api.EEXIST, 7, 8))
	does(t, "all of it", x, 1, 2, ops)
}

// R4: the list that is handed in is neither changed, its spare room included, nor kept; whether all is done or none.
func TestDoList(t *testing.T) {
	for used, good := range map[int]bool{1: true, 12: true, 15: true, 16: false} {
		list := append(slices.Clone(around), remove("/no", -1), get("/spare"))
		w := slices.Clone(list)
		x := busy(t, 9)
		if r, ok := Do(x, 1, 50, list[:used]...); ok != good {
			t.Fatalf("%s", tellReply(r))
		}
		if !slices.Equal(list, w) {
			t.Errorf("what was handed in is %v", list)
		}
		before := state(x)
		clear(list)
		if state(x) != before {
			t.Errorf("the list is kept")
		}
	}
}

// R4: what is answered does not change with the tree, nor the tree with it, spare room too; no two of its lists are one.
func TestDoAnswersAreNew(t *testing.T) {
	x := busy(t, 9)
	ask := func() reply.Reply {
		r, ok := Do(x, 1, 50, children("/a"), children("/a"), children("/laid"), get("/a"))
		if !ok {
			t.Fatalf("%s", tellReply(r))
		}
		return r
	}
	first, second := ask(), ask()
	w, before := tellReply(first), state(x)
	if tellReply(second) != w {
		t.Errorf("%s, want %s", tellReply(second), w)
	}
	ruin(first.Results[0].Names)
	if got, twin := fmt.Sprint(first.Results[1].Names), fmt.Sprint(second.Results[1].Names); got != twin {
		t.Errorf("two lists of one answer are one: %s, want %s", got, twin)
	}
	ruin(first.Results[1].Names)
	ruin(first.Results[2].Names)
	clear(first.Results[:cap(first.Results)])
	if state(x) != before || tellReply(second) != w {
		t.Errorf("the tree, or another answer, has what was answered")
	}
	Do(x, 1, 51, create("/a/z", "", 0), remove("/a/e", -1), set("/a", "other", -1), create("/laid/a", "", 2))
	if tellReply(second) != w {
		t.Errorf("what was answered changes with the tree")
	}
	no, _ := Do(x, 1, 52, create("/r", "", 0), get("/no"))
	clear(no.Results[:cap(no.Results)])
	again, _ := Do(x, 1, 52, create("/r", "", 0), get("/no"))
	wantReply(t, "one that fails, again", again, failed(api.ENONE, 1, 2))
}

// ruin writes over a list, its spare room too.
func ruin(list []string) {
	list = list[:cap(list)]
	for i := range list {
		list[i] = "!"
	}
}

// inside tells whether a text stands in another one's memory.
func inside(s, in string) bool {
	at, begin := uintptr(unsafe.Pointer(unsafe.StringData(s))), uintptr(unsafe.Pointer(unsafe.StringData(in)))
	return len(s) > 0 && at >= begin && at < begin+uintptr(len(in))
}

// LANGUAGE 7: texts that are handed in are neither kept nor answered: a short one may be a piece of a long one.
func TestDoTextsAreNotKept(t *testing.T) {
	long := strings.Repeat("/abc/k/xyz", 1000)
	x := empty(t, 20)
	var told []string
	for _, ops := range [][]api.Op{
		{create(long[:4], long[5:9], 0), create(long[:6], long[1:4], 1), create(long[:6], long[1:4], 2), set(long[:4], long[1:9], -1), get(long[:4]), children(long[:4])},
		{create(long[:6]+long[6:7]+long[7:10], "", 0)}, {check(long[:4], -1)}, {get(long[:4])}, {remove(long[:6], -1), exists(long[:4])},
	} {
		r, _ := Do(x, 1, 1, ops...)
		for _, one := range r.Results {
			told = append(append(told, one.Path, one.Data), one.Names...)
		}
	}
	for _, p := range x.Paths() {
		n, _ := x.Node(p)
		told = append(append(told, p, n.Data), n.Names...)
	}
	if len(told) < 25 {
		t.Fatalf("%q", told)
	}
	for _, s := range told {
		if inside(s, long) {
			t.Errorf("%q is the text that was handed in", s)
		}
	}
}

// anyPath makes one of few, so that they meet.
func anyPath(luck *rand.Rand) string {
	p := ""
	for range 1 + luck.Intn(3) {
		p += "/" + []string{"a", "b", "s0000000001"}[luck.Intn(8)*3/8]
	}
	return p
}

// anyOp makes an Op that op's Good mostly takes, and the tree often.
func anyOp(luck *rand.Rand, x *tree.Tree) api.Op {
	o := api.Op{Kind: []int{1, 1, 1, 2, 3, 3, 4, 5, 6, 7}[luck.Intn(10)], Path: anyPath(luck)}
	if there := x.Paths(); len(there) > 0 && luck.Intn(5) > 0 {
		o.Path = there[luck.Intn(len(there))]
		if o.Kind == api.Create && strings.Count(o.Path, "/") < 5 {
			o.Path += anyPath(luck)[:2]
		}
	}
	n, _ := x.Node(o.Path)
	switch o.Kind {
	case api.Create:
		o.Data, o.Flags = fill(luck.Intn(3)), []int{0, 0, 1, 2, 3}[luck.Intn(5)]
		if o.Flags >= 2 {
			o.Path = o.Path[:strings.LastIndex(o.Path, "/")] + "/s"
		}
	case api.Set:
		o.Data, o.Version = fill(luck.Intn(3)), []int{-1, -1, n.Version, n.Version + 1}[luck.Intn(4)]
	case api.Delete, api.Check:
		o.Version = []int{-1, -1, n.Version, n.Version + 1}[luck.Intn(4)]
	}
	if luck.Intn(60) == 0 {
		o.Flags++
	}
	return o
}

// anyNode makes one that may be laid.
func anyNode(luck *rand.Rand) stat.Node {
	n := stat.Node{Data: fill(luck.Intn(3)), Next: []int{0, 1, 5, -1, most - 1, most, most + 1}[luck.Intn(7)]}
	n.Made, n.Changed, n.Version, n.Kids = int64(luck.Intn(9)), int64(luck.Intn(9)), luck.Intn(3), luck.Intn(3)
	n.Owner = []int64{0, 0, 0, 1, 2, -7}[luck.Intn(6)]
	for _, s := range []string{"a", "b", "s0000000001"} {
		if luck.Intn(4) == 0 {
			n.Names = append(n.Names, s)
		}
	}
	return n
}

// P12.1: long runs of Do, Request and Purge, held against tree's Do, one Op behind the other, and against purged.
func TestLongRuns(t *testing.T) {
	met, done, gone := map[api.Errno]int{}, 0, 0
	for seed := range int64(200) {
		luck := rand.New(rand.NewSource(seed))
		x := empty(t, 1+luck.Intn(12))
		for i := range 200 {
			var ops []api.Op
			for range 1 + luck.Intn([]int{1, 2, 3, 4, 16}[luck.Intn(5)]) {
				ops = append(ops, anyOp(luck, x))
			}
			sess, zxid := []int64{1, 1, 1, 1, 2, 2, 2, 3, 3, 0, -7}[luck.Intn(11)], int64(i-luck.Intn(3))
			switch what := luck.Intn(20); {
			case what == 0:
				x.Load(anyPath(luck), anyNode(luck))
			case what == 1:
				gone += len(purges(t, fmt.Sprintf("seed %d, step %d", seed, i), x, sess))
			case what < 6:
				req := op.Request{Sess: sess, Num: int64(luck.Intn(5)), Ops: ops}
				asks(t, fmt.Sprintf("seed %d, step %d", seed, i), x, req, zxid)
			default:
				w, good, then := by(x, sess, zxid, ops)
				r, ok := Do(x, sess, zxid, ops...)
				wantReply(t, fmt.Sprintf("Do(%v)", ops), r, w)
				if ok != good || state(x) != state(then) || left(x) != left(then) {
					t.Fatalf("seed %d, step %d: Do(%v): %v, and the tree is\n%s, want\n%s", seed, i, ops, ok, state(x), state(then))
				}
				if ok && len(ops) > 1 {
					done++
				}
				if r.At > 0 {
					met[r.Err]++
				}
			}
			if t.Failed() {
				t.Fatalf("seed %d, step %d", seed, i)
			}
		}
	}
	for _, e := range []api.Errno{api.EARG, api.ENONE, api.EEXIST, api.EVERSION, api.EKIDS, api.EEPH, api.EFULL} {
		if met[e] < 20 {
			t.Errorf("error %d was met %d times alone", e, met[e])
		}
	}
	if done < 1000 || gone < 300 {
		t.Errorf("%d multis were done, and %d nodes purged, alone", done, gone)
	}
}

// R5: the same calls, the same answers; and no tree knows of another.
func TestSameCallsSameAnswers(t *testing.T) {
	a, b, other := busy(t, 9), busy(t, 9), busy(t, 3)
	for i := range 20 {
		Do(other, 2, 2, create("/a/n", "", 2), create("/other", "", 1))
		for _, f := range failures {
			ops := placed(f.o, i%5, 5)
			r, ok := Do(a, 1, int64(i), ops...)
			s, also := Do(b, 1, int64(i), ops...)
			if tellReply(r) != tellReply(s) || ok != also {
				t.Fatalf("%v: %s, %s", ops, tellReply(r), tellReply(s))
			}
		}
	}
	if goesOn(a) != goesOn(b) {
		t.Errorf("they are not alike")
	}
}
