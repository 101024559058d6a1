package multi

import (
	"fmt"
	"math"
	"slices"
	"testing"

	"aviary/api"
	"aviary/op"
	"aviary/reply"
	"aviary/tree"
)

// asks asks that Request does what its sentence says, by op's May and tree's Do.
func asks(t testing.TB, what string, x *tree.Tree, req op.Request, zxid int64) reply.Reply {
	t.Helper()
	w, _, then := by(x, req.Sess, zxid, req.Ops)
	w.Num, w.Zxid = req.Num, zxid
	if e := op.May(req); e != api.OK {
		w, then = reply.Reply{Num: req.Num, Err: e, At: -1}, x.Copy()
	}
	r := Request(x, req, zxid)
	wantReply(t, what, r, w)
	if a, b := state(x), state(then); a != b || left(x) != left(then) {
		t.Fatalf("%s: the tree is\n%s, want\n%s", what, a, b)
	}
	if a, b := goesOn(x.Copy()), goesOn(then); a != b {
		t.Fatalf("%s: the tree goes on as\n%s, not as\n%s", what, a, b)
	}
	return r
}

// P12.1: what op's May refuses: its error, at no place, without Results; Zxid 0 and the request's Num, whatever it is.
func TestRequestThatMayNot(t *testing.T) {
	x := busy(t, 9)
	one := create("/g", "", 0)
	for what, c := range map[string]struct {
		r op.Request
		e api.Errno
	}{
		"Sess 0":                   {op.Request{Sess: 0, Num: 5, Ops: []api.Op{one}}, api.EARG},
		"Sess below 0":             {op.Request{Sess: math.MinInt64, Num: 5, Ops: []api.Op{one}}, api.EARG},
		"Num 0":                    {op.Request{Sess: 1, Num: 0, Ops: []api.Op{one}}, api.EARG},
		"Num below 0":              {op.Request{Sess: 1, Num: -7, Ops: []api.Op{one}}, api.EARG},
		"the least Num":            {op.Request{Sess: 1, Num: math.MinInt64, Ops: []api.Op{one}}, api.EARG},
		"no Op":                    {op.Request{Sess: 1, Num: 5}, api.EARG},
		"an empty list":            {op.Request{Sess: 1, Num: 5, Ops: []api.Op{}}, api.EARG},
		"nothing":                  {op.Request{}, api.EARG},
		"Sess 0 and too many":      {op.Request{Sess: 0, Num: 5, Ops: make([]api.Op, 17)}, api.EARG},
		"one too many":             {op.Request{Sess: 1, Num: 5, Ops: slices.Repeat([]api.Op{one}, 17)}, api.ELIMIT},
		"too many that are none":   {op.Request{Sess: 1, Num: 5, Ops: make([]api.Op, 40)}, api.ELIMIT},
		"an Op that is none":       {op.Request{Sess: 1, Num: 5, Ops: []api.Op{{}}}, api.EARG},
		"no path, at last":         {op.Request{Sess: 1, Num: 5, Ops: []api.Op{one, get("/")}}, api.EARG},
		"too much Data":            {op.Request{Sess: 1, Num: 5, Ops: []api.Op{create("/q", fill(1001), 0)}}, api.ELIMIT},
		"too much Data, at last":   {op.Request{Sess: 1, Num: 5, Ops: []api.Op{one, set("/a", "", 1), set("/a", fill(1001), -1)}}, api.ELIMIT},
		"too much Data, then none": {op.Request{Sess: 1, Num: 5, Ops: []api.Op{one, set("/a", fill(1001), -1), {}}}, api.ELIMIT},
		"none, then too much Data": {op.Request{Sess: 1, Num: 5, Ops: []api.Op{one, {}, set("/a", fill(1001), -1)}}, api.EARG},
		"behind one that fails":    {op.Request{Sess: 1, Num: 5, Ops: []api.Op{get("/no"), create("/q", fill(1001), 0)}}, api.ELIMIT},
		"a Get among others":       {op.Request{Sess: 1, Num: 5, Ops: []api.Op{one, get("/a")}}, api.EARG},
		"an Exists among others":   {op.Request{Sess: 1, Num: 5, Ops: []api.Op{exists("/a"), one}}, api.EARG},
		"a Children among others":  {op.Request{Sess: 1, Num: math.MaxInt64, Ops: []api.Op{one, children("/a"), check("/a", 1)}}, api.EARG},
		"reads alone":              {op.Request{Sess: 1, Num: 5, Ops: []api.Op{get("/a"), get("/a")}}, api.EARG},
		"ahead of what fails":      {op.Request{Sess: 1, Num: 5, Ops: []api.Op{remove("/no", -1), get("/a")}}, api.EARG},
	} {
		for _, zxid := range []int64{50, 0, -1, math.MaxInt64} {
			wantReply(t, what, asks(t, what, x, c.r, zxid), reply.Reply{Num: c.r.Num, Err: c.e, At: -1})
		}
	}
}

// P12.1: a request that fails has its Num and its transaction's Zxid, and all else of Do's reply.
func TestRequestThatFails(t *testing.T) {
	x := busy(t, 9)
	for _, f := range failures {
		for n := 1; n <= 3; n++ {
			for at := range n {
				req := op.Request{Sess: 1, Num: int64(40 + n), Ops: placed(f.o, at, n)}
				if op.May(req) != api.OK {
					continue
				}
				for _, zxid := range []int64{50, 0, math.MaxInt64} {
					what := fmt.Sprintf("%.60v at %d of %d", f.o, at, n)
					w := failed(f.e, at, n)
					w.Num, w.Zxid = req.Num, zxid
					wantReply(t, what, asks(t, what, x, req, zxid), w)
				}
			}
		}
	}
	r := asks(t, "EFULL", busy(t, 1), op.Request{Sess: 1, Num: math.MaxInt64, Ops: []api.Op{create("/g", "", 0), create("/a/n", "", 2)}}, 50)
	wantReply(t, "EFULL", r, reply.Reply{Num: math.MaxInt64, Zxid: 50, Err: api.EFULL, At: 1, Results: []api.Result{{Err: api.ESKIP}, {Err: api.EFULL}}})
}

// P12.1: a zxid below 0 is no error of May's: tree's Do refuses it, at the first Op; the reply has it all the same.
func TestRequestOfNoTransaction(t *testing.T) {
	x := busy(t, 9)
	for _, zxid := range []int64{-1, math.MinInt64} {
		r := asks(t, "a zxid below 0", x, op.Request{Sess: 1, Num: 6, Ops: []api.Op{create("/g", "", 0), create("/h", "", 0)}}, zxid)
		wantReply(t, "a zxid below 0", r, reply.Reply{Num: 6, Zxid: zxid, Err: api.EARG, At: 0, Results: []api.Result{{Err: api.EARG}, {Err: api.ESKIP}}})
		r = asks(t, "a zxid below 0", x, op.Request{Sess: 1, Num: 6, Ops: []api.Op{get("/no")}}, zxid)
		wantReply(t, "a zxid below 0", r, reply.Reply{Num: 6, Zxid: zxid, Err: api.EARG, At: 0, Results: []api.Result{{Err: api.EARG}}})
	}
}

// P12.1: a request that succeeds: its Num, its transaction's Zxid, all Results; by its own session.
func TestRequestThatSucceeds(t *testing.T) {
	for _, c := range []struct{ sess, num, zxid int64 }{{1, 1, 50}, {7, 3, 0}, {math.MaxInt64, math.MaxInt64, math.MaxInt64}} {
		x := busy(t, 9)
		r := asks(t, "a multi", x, op.Request{Sess: c.sess, Num: c.num, Ops: []api.Op{create("/g", "d", 1), create("/a/n", "", 3), check("/a", 1), remove("/e", 0)}}, c.zxid)
		owned := api.Stat{Made: c.zxid, Changed: c.zxid, Owner: c.sess}
		long := owned
		long.Length = 1
		wantReply(t, "a multi", r, reply.Reply{Num: c.num, Zxid: c.zxid, At: -1, Results: []api.Result{{Path: "/g", Stat: long}, {Path: "/a/n0000000003", Stat: owned}, {Path: "/a"}, {Path: "/e"}}})
		for _, o := range []api.Op{get("/a"), exists("/a"), children("/a"), check("/a", -1), set("/a", "", 1), create("/h", "", 0), remove("/h", 0)} {
			r := asks(t, "one", x, op.Request{Sess: c.sess, Num: c.num, Ops: []api.Op{o}}, c.zxid)
			if r.Err != api.OK || r.Num != c.num || r.Zxid != c.zxid || r.At != -1 || len(r.Results) != 1 || r.Results[0].Path != o.Path {
				t.Errorf("%v: %s", o, tellReply(r))
			}
		}
	}
	var most []api.Op
	for i := range 16 {
		most = append(most, create(fmt.Sprintf("/q%d", i), fill(1000), 0))
	}
	x := busy(t, 16)
	if r := asks(t, "MaxOps", x, op.Request{Sess: 1, Num: 9, Ops: most}, 50); r.Err != api.OK || len(r.Results) != 16 || left(x) != 0 {
		t.Errorf("MaxOps: %s", tellReply(r))
	}
}

// R4: a request's list is neither changed nor kept.
func TestRequestList(t *testing.T) {
	x := busy(t, 9)
	list := slices.Clone(around)
	Request(x, op.Request{Sess: 1, Num: 1, Ops: list[:9]}, 50)
	Request(x, op.Request{Sess: 1, Num: 2, Ops: list[:2]}, 51)
	if !slices.Equal(list, around) {
		t.Errorf("what was handed in is %v", list)
	}
	before := state(x)
	clear(list)
	if state(x) != before {
		t.Errorf("the list is kept")
	}
}
