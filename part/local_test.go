package part

import (
	"fmt"
	"math"
	"strconv"
	"testing"

	"aviary/api"
	"aviary/multi"
	"aviary/op"
	"aviary/reply"
	"aviary/tree"
)

// mayNot are requests that op's May refuses, and with what.
func mayNot() map[string]struct {
	r op.Request
	e api.Errno
} {
	type row = struct {
		r op.Request
		e api.Errno
	}
	one := []api.Op{plain("/new")}
	out := map[string]row{
		"no Ops":               {op.Request{Sess: 1, Num: 1}, api.EARG},
		"as many as may be":    {op.Request{Sess: 1, Num: 1, Ops: append(many(15, plain("/new")), plain("new"))}, api.EARG},
		"one more":             {op.Request{Sess: 1, Num: 1, Ops: many(17, plain("/new"))}, api.ELIMIT},
		"one more, none good":  {op.Request{Sess: 1, Num: 1, Ops: many(17, plain("new"))}, api.ELIMIT},
		"no path":              {op.Request{Sess: 1, Num: 1, Ops: []api.Op{plain("new")}}, api.EARG},
		"no path, the second":  {op.Request{Sess: 1, Num: 1, Ops: []api.Op{plain("/new"), plain("/new/")}}, api.EARG},
		"no Kind":              {op.Request{Sess: 1, Num: 1, Ops: []api.Op{{Path: "/new"}}}, api.EARG},
		"a Kind too great":     {op.Request{Sess: 1, Num: 1, Ops: []api.Op{{Kind: 8, Path: "/new"}}}, api.EARG},
		"too much Data":        {op.Request{Sess: 1, Num: 1, Ops: []api.Op{create("/new", fill(1001), 0)}}, api.ELIMIT},
		"too much, second":     {op.Request{Sess: 1, Num: 1, Ops: []api.Op{plain("/new"), set("/new", fill(1001), 0)}}, api.ELIMIT},
		"a first name, number": {op.Request{Sess: 1, Num: 1, Ops: []api.Op{number("/new")}}, api.EARG},
		"Flags":                {op.Request{Sess: 1, Num: 1, Ops: []api.Op{create("/new", "", 4)}}, api.EARG},
		"a Version":            {op.Request{Sess: 1, Num: 1, Ops: []api.Op{gone("/new"), check("/new", -2)}}, api.EARG},
		"a Get beside others":  {op.Request{Sess: 1, Num: 1, Ops: []api.Op{plain("/new"), get("/new")}}, api.EARG},
		"two Exists":           {op.Request{Sess: 1, Num: 1, Ops: []api.Op{exists("/new"), exists("/new")}}, api.EARG},
		"Children beside":      {op.Request{Sess: 1, Num: 1, Ops: []api.Op{children("/new"), plain("/new")}}, api.EARG},
	}
	for _, n := range notAbove {
		out["Sess "+strconv.FormatInt(n, 10)] = row{op.Request{Sess: n, Num: 1, Ops: one}, api.EARG}
		out["Num "+strconv.FormatInt(n, 10)] = row{op.Request{Sess: 1, Num: n, Ops: one}, api.EARG}
		out["both "+strconv.FormatInt(n, 10)] = row{op.Request{Sess: n, Num: n, Ops: many(17, plain(""))}, api.EARG}
	}
	return out
}

// P18.1: Local of what op's May refuses: Fail(Num, that, -1, 0), and nothing counts, also where all else would refuse it.
func TestLocalMayNot(t *testing.T) {
	for what, c := range mayNot() {
		for _, b := range []*both{
			pair(t, 5),
			with(t, 3, plain("/a"), plain("/b")).closes(api.OK, 1, 1).prepares(api.OK, -1, 2, 2, plain("/new")),
			with(t, 3, plain("/a"), plain("/b")).closes(api.OK, 1, 1).decides(1, true).prepares(api.OK, -1, 2, 2, plain("/new")),
		} {
			before := state(b.p)
			for _, num := range []int64{c.r.Num, c.r.Num, c.r.Num * 7} {
				r := c.r
				r.Num = num
				told := b.ask(r)
				if w := (reply.Reply{Num: num, Err: c.e, At: -1}); tellReply(told) != tellReply(w) || state(b.p) != before {
					t.Errorf("%s: %s, want %s", what, tellReply(told), tellReply(w))
				}
			}
		}
	}
}

// P18.1: Local else: multi's Request of a zxid of its own, each one more, also of one that fails.
func TestLocalIsMultis(t *testing.T) {
	b := pair(t, 4)
	x, _ := tree.New(4)
	for i, ops := range [][]api.Op{
		{create("/a", "xy", 0)}, {plain("/a")}, {get("/a")}, {set("/a", "z", 0), check("/a", 1)}, {exists("/a")}, {create("/a/s", "", 3)}, {children("/a")}, {get("/q")},
		{plain("/b"), gone("/a/s0000000000"), gone("/a"), plain("/b")}, {gone("/a/s0000000000"), gone("/a"), plain("/b"), owned("/b/e")}, {plain("/b/e/x")}, {set("/b", "", 1)},
		{plain("/c"), plain("/d"), plain("/e")}, {plain("/c"), plain("/d")}, {plain("/e")}, {gone("/c"), plain("/e")}, {gone("/b")}, {number("/q/s")}, {gone("/e"), number("/b/s")},
	} {
		r := op.Request{Sess: 1 + int64(i)%3, Num: math.MaxInt64 - int64(i), Ops: ops}
		told, w := b.ask(r), multi.Request(x, r, int64(i+1))
		if tellReply(told) != tellReply(w) || tellTree(b.p.Tree()) != tellTree(x) {
			t.Errorf("%v: %s, want %s", ops, tellReply(told), tellReply(w))
		}
		b.counts(int64(i+1), 0, 0)
	}
}

// wantFail holds that a Local is refused: its Zxid counts, its Results are all there, and nothing else is changed.
func (b *both) wantFail(e api.Errno, at int, sess int64, ops ...api.Op) {
	b.t.Helper()
	before, zxid := tellTree(b.p.Tree())+fmt.Sprint(b.p.Locks(), b.p.Wanted(), b.p.Waiting()), b.p.Zxid()
	told := b.locally(e, at, sess, ops...)
	w := reply.Fail(3, e, at, len(ops))
	w.Zxid = zxid + 1
	if tellReply(told) != tellReply(w) || b.p.Zxid() != zxid+1 {
		b.t.Errorf("session %d, %s: %.500s, Zxid %d; want %.500s", sess, tellOps(ops), tellReply(told), b.p.Zxid(), tellReply(w))
	}
	if s := tellTree(b.p.Tree()) + fmt.Sprint(b.p.Locks(), b.p.Wanted(), b.p.Waiting()); s != before {
		b.t.Errorf("session %d, %s: refused, and there is\n%s, was\n%s", sess, tellOps(ops), s, before)
	}
}

// P18.1: Local of a session that is closed: ESESS, of no Op, ahead of all that would be EBUSY, or fail; of others it is not.
func TestLocalOfTheClosed(t *testing.T) {
	b := with(t, 3, plain("/a"), plain("/b")).closes(api.OK, 1, 5).decides(1, true).prepares(api.OK, -1, 2, 6, plain("/c"))
	for _, ops := range [][]api.Op{{get("/a")}, {get("/c")}, {plain("/d")}, {plain("/c"), plain("/d")}, {plain("/a")}, many(16, set("/a", "", -1)), {gone("/q")}} {
		b.wantFail(api.ESESS, -1, 5, ops...)
	}
	b.locally(api.OK, -1, 1, get("/a"))
	b.locally(api.OK, -1, 6, get("/a"))
	b.locally(api.OK, -1, 1<<32+5, get("/a"))
}

// P18.1: Local of a session of which a Close is prepared: EBUSY, of no Op, ahead of what is blocked, or has no room; of
// others it is not; and behind a Decide that does not commit it is not.
func TestLocalOfTheClosing(t *testing.T) {
	b := with(t, 3, plain("/a"), plain("/b")).closes(api.OK, 1, 5).prepares(api.OK, -1, 2, 6, plain("/c"))
	for _, ops := range [][]api.Op{{get("/a")}, {get("/c")}, {plain("/d")}, {plain("/q"), plain("/c")}, {plain("/a")}, many(16, set("/a", "", -1))} {
		b.wantFail(api.EBUSY, -1, 5, ops...)
	}
	b.locally(api.OK, -1, 1, get("/a"))
	b.locally(api.OK, -1, 6, get("/a"))
	b.wantFail(api.EBUSY, 0, 6, get("/c"))
	b.decides(1, false)
	b.locally(api.OK, -1, 5, get("/a"))
	b.wantFail(api.EBUSY, 0, 5, get("/c"))
}

// all makes an Op of each Kind of a path, some twice.
func all(p string) []api.Op {
	return []api.Op{plain(p), owned(p), gone(p), remove(p, 9), set(p, "x", -1), check(p, 7), get(p), exists(p), children(p)}
}

// P18.1: Local of a path that is wanted, by its Parent, or by a path under it: EBUSY, of each Kind, reads too; of others
// not. Who asks does not matter: also the session for which it is prepared waits.
func TestLocalBlocked(t *testing.T) {
	for _, c := range []struct {
		prepared api.Op
		blocked  []string
		free     []string
	}{
		{plain("/a/b"), []string{"/a/b", "/a", "/a/b/c"}, []string{"/a/b/c/d", "/a/c", "/a/bc", "/ab", "/b", "/q/a/b"}},
		{gone("/a"), []string{"/a", "/a/b", "/a/k"}, []string{"/a/b/c", "/b", "/ab", "/ab/c"}},
		{set("/a/k", "", -1), []string{"/a/k", "/a", "/a/k/s"}, []string{"/a/c", "/a/k/s/d", "/a/k-"}},
		{check("/z", -1), []string{"/z", "/z/y"}, []string{"/z/y/x", "/zz", "/a"}},
		{number("/a/s"), []string{"/a/s", "/a", "/a/b", "/a/k", "/a/s0000000000", "/a/s0000000001", "/a/s/x"}, []string{"/a/b/c", "/a/s0000000000/x", "/s", "/z"}},
		{number("/a/k/s"), []string{"/a/k/s", "/a/k", "/a", "/a/k/x", "/a/k/s0000000000", "/a/k/s/x"}, []string{"/a/b", "/a/s", "/a/k/x/y", "/a/k/s0000000000/x", "/z"}},
		{get("/a/k"), []string{"/a/k", "/a", "/a/k/x"}, []string{"/a/b", "/z"}}, // a single read may be prepared too
	} {
		b := with(t, 20, plain("/a"), plain("/a/k"), plain("/z"))
		b.prepare(9, 5, c.prepared)
		for _, sess := range []int64{1, 5, 9} {
			for _, p := range c.blocked {
				for _, o := range all(p) {
					b.wantFail(api.EBUSY, 0, sess, o)
				}
			}
			for _, p := range c.free {
				for _, o := range all(p) {
					if r := b.ask(op.Request{Sess: sess, Num: 1, Ops: []api.Op{o}}); r.Err == api.EBUSY {
						t.Errorf("%v is prepared: %v: %s", c.prepared, o, tellReply(r))
					}
				}
			}
		}
	}
}

// P18.1: a sequential Create waits also where its Parent is wanted, or a path beside it; one with a name alone does not.
func TestLocalNumberBlocked(t *testing.T) {
	for prepared, blocks := range map[api.Op]bool{
		plain("/a/b"): true, number("/a/t"): true, set("/a/k", "", -1): true, check("/a", -1): true, set("/a/k/x", "", -1): false, check("/z", -1): false, gone("/a/none"): true, plain("/a/k/y"): false,
	} {
		b := with(t, 20, plain("/a"), plain("/a/k"), plain("/a/k/x"), plain("/z"))
		b.prepare(9, 5, prepared)
		if blocks {
			b.wantFail(api.EBUSY, 0, 1, number("/a/s"))
			b.wantFail(api.EBUSY, 2, 1, plain("/y"), gone("/y"), create("/a/s", "", 3))
		} else {
			b.locally(api.OK, -1, 1, number("/a/s"))
		}
	}
	b := with(t, 20, plain("/a")).prepares(api.OK, -1, 9, 5, plain("/a/b"))
	b.locally(api.OK, -1, 1, plain("/a/s"))
	b.wantFail(api.EBUSY, 0, 1, number("/a/s"))
}

// P18.1: of several the first Op that waits is told; what is wanted by Ops that are prepared to fail, or by a Close, is too.
func TestLocalBlockedPlace(t *testing.T) {
	b := with(t, 20, plain("/a"), plain("/b"), plain("/c"))
	b.locally(api.OK, -1, 5, owned("/c/e"))
	b.prepares(api.ENONE, 1, 9, 2, plain("/x"), gone("/y"), plain("/z/y")).closes(api.OK, 8, 5)
	for at, ops := range [][]api.Op{
		{gone("/y"), plain("/x")},
		{plain("/q"), plain("/x")},
		{plain("/q"), gone("/nothing"), plain("/z"), gone("/y")},
		{gone("/a"), gone("/a"), gone("/a"), set("/z/y", "", -1), gone("/y")},
		{gone("/a"), gone("/b"), check("/a", 5), check("/b", 5), check("/c/e", -1)},
		{gone("/a"), gone("/b"), check("/a", 5), check("/b", 5), gone("/b"), check("/c", -1), plain("/c/e")},
		{gone("/a"), gone("/b"), check("/a", 5), check("/b", 5), gone("/b"), plain("/c/f"), number("/c/s")},
	} {
		b.wantFail(api.EBUSY, at, 1, ops...)
	}
	b.wantFail(api.EBUSY, 15, 1, append(many(15, check("/a", -1)), gone("/x"))...)
	b.locally(api.OK, -1, 1, plain("/q"))
}

// news makes Creates of n paths that begin alike.
func news(begin string, n int) []api.Op {
	var ops []api.Op
	for i := range n {
		ops = append(ops, plain(begin+strconv.Itoa(i)))
	}
	return ops
}

// P18.1: the room that prepared Creates take: with the tree's nodes and the request's own Creates at room all is well;
// above it the first Create is EBUSY, though what goes by the request would make room.
func TestLocalRoom(t *testing.T) {
	for room := 3; room <= 7; room++ {
		for nodes := 1; nodes < room; nodes++ {
			for wanted := 1; nodes+wanted <= room; wanted++ {
				for own := range room {
					b := with(t, room, news("/n", nodes)...).prepares(api.OK, -1, 1, 2, append(news("/w", wanted), check("/w0", 0))...)
					b.counts(int64(nodes), wanted, wanted, 1)
					ops := append([]api.Op{check("/n0", -1), gone("/n0")}, news("/o", own)...)
					if nodes+wanted+own > room {
						b.wantFail(api.EBUSY, 2, 1, append(ops, check("/none", -1))...)
						b.wantFail(api.EBUSY, 0, 1, news("/o", own)...)
					} else {
						b.locally(api.OK, -1, 1, ops...)
					}
					b.decide(1, true)
				}
			}
		}
	}
}

// P18.1: above room there is no EBUSY for what makes no node, and what is wanted is told ahead of it; behind Decide it is over.
func TestLocalRoomOrder(t *testing.T) {
	b := with(t, 3, plain("/a"), plain("/b"), plain("/c")).prepares(api.OK, -1, 1, 2, gone("/a"), plain("/d"))
	b.counts(3, 2, 1, 1)
	b.wantFail(api.EBUSY, 0, 1, plain("/e"))
	b.wantFail(api.EBUSY, 0, 1, owned("/e"))
	b.wantFail(api.EBUSY, 0, 1, plain("/b")) // though it is there
	b.wantFail(api.EBUSY, 1, 1, set("/b", "x", 7), number("/b/s"), plain("/e"))
	b.wantFail(api.EBUSY, 2, 1, plain("/e"), plain("/f"), set("/a", "", -1))
	b.wantFail(api.EBUSY, 0, 1, plain("/e"), plain("/f"), set("/b", "", 7))
	b.locally(api.OK, -1, 1, set("/b", "x", -1), check("/c", 0))
	b.locally(api.EVERSION, 1, 1, gone("/b"), remove("/c", 5))
	b.locally(api.OK, -1, 1, get("/b"))
	b.locally(api.OK, -1, 1, gone("/b"))
	b.wantFail(api.EBUSY, 1, 1, gone("/c"), plain("/e"), plain("/f"))
	b.locally(api.OK, -1, 1, gone("/c"))
	b.locally(api.OK, -1, 1, plain("/e"))
	b.wantFail(api.EBUSY, 0, 1, plain("/f"))
	b.decides(1, true, "/a", "/d").paths("/d", "/e")
	b.locally(api.OK, -1, 1, plain("/f"))
	b.wantFail(api.EFULL, 0, 1, plain("/g"))
}

// P18.1: without any prepared Create there is no EBUSY for room: it is for multi to say.
func TestLocalRoomWithoutWanted(t *testing.T) {
	b := with(t, 2, plain("/a")).prepares(api.OK, -1, 1, 2, check("/a", -1)).prepares(api.ENONE, 1, 2, 2, plain("/c"), gone("/d"))
	b.closes(api.OK, 3, 7).counts(1, 3, 0, 1, 2, 3)
	b.wantFail(api.EFULL, 1, 1, plain("/x"), plain("/y"))
	b.locally(api.OK, -1, 1, plain("/x"), gone("/x"), plain("/y"))
	b.wantFail(api.EFULL, 0, 1, plain("/z"))
}
