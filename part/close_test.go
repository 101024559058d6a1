package part

import (
	"math"
	"testing"

	"aviary/api"
)

// refusesClose holds that a Close is refused, and changes nothing.
func (b *both) refusesClose(e api.Errno, id, sess int64) *both {
	b.t.Helper()
	before := state(b.p)
	b.closes(e, id, sess)
	if s := state(b.p); s != before {
		b.t.Errorf("Close(%d, %d): refused, and there is\n%s, was\n%s", id, sess, s, before)
	}
	return b
}

// P18.2: Close with an id or a session below 1, or an id that was used: EARG, also of a session that is closed or busy.
func TestCloseNumbers(t *testing.T) {
	b := with(t, 20, plain("/a")).prepares(api.OK, -1, 1, 2, plain("/b")).closes(api.OK, 2, 3).closes(api.OK, 3, 4).decides(3, true).closes(api.OK, 4, 6).decides(4, false)
	b.prepares(api.ENONE, 0, 5, 2, gone("/c")).prepares(api.OK, -1, 6, 2, plain("/d")).decides(6, true, "/d").prepares(api.OK, -1, 7, 2, plain("/e")).decides(7, false)
	for _, sess := range []int64{1, 2, 3, 4, 6, 9, math.MaxInt64} {
		for _, n := range notAbove {
			b.refusesClose(api.EARG, n, sess).refusesClose(api.EARG, 9, n).refusesClose(api.EARG, n, n)
		}
		for id := int64(1); id <= 7; id++ {
			b.refusesClose(api.EARG, id, sess)
		}
	}
	b.closes(api.OK, math.MaxInt64, math.MaxInt64).counts(5, 2, 1, 1, 2, 5, math.MaxInt64)
}

// P18.2: ESESS of one that is closed, also if its number was never seen ahead of that.
func TestCloseOfTheClosed(t *testing.T) {
	b := with(t, 20, plain("/a"))
	b.locally(api.OK, -1, 5, owned("/e"))
	b.closes(api.OK, 1, 5).closes(api.OK, 2, 77).decides(1, true).decides(2, true)
	b.refusesClose(api.ESESS, 3, 5).refusesClose(api.ESESS, 3, 77)
	b.closes(api.OK, 3, 1).closes(api.OK, 4, 78)
}

// P18.2: EBUSY, if a Close of it is prepared: till it is decided; other sessions' are not in the way.
func TestCloseOfTheClosing(t *testing.T) {
	b := with(t, 20, plain("/a"))
	b.closes(api.OK, 1, 5).refusesClose(api.EBUSY, 2, 5).closes(api.OK, 2, 6).refusesClose(api.EBUSY, 3, 6)
	b.decides(1, false).closes(api.OK, 3, 5).refusesClose(api.EBUSY, 4, 5).decides(3, true).refusesClose(api.ESESS, 4, 5)
	b.refusesClose(api.EBUSY, 4, 6)
}

// P18.2: EBUSY, if one of the paths of its nodes is blocked, by its own, by its Parent's, by one's under it being held.
func TestCloseBlocked(t *testing.T) {
	for _, c := range []struct {
		o    api.Op
		busy bool
	}{
		{gone("/a/e"), true}, {check("/a/e", 7), true}, {get("/f"), true}, {set("/a", "", -1), true}, {plain("/f/g"), true}, {gone("/f/g"), true}, {number("/a/s"), true}, {number("/a/e/s"), true},
		{plain("/a/x"), false}, {plain("/b"), false}, {plain("/f/g/h"), false}, {check("/a/k", -1), false}, {owned("/f2"), false}, {plain("/a/e/1/2"), false}, {gone("/g"), false},
	} {
		b := with(t, 20, plain("/a"), plain("/a/k"))
		b.locally(api.OK, -1, 5, owned("/a/e"), owned("/f"))
		b.locally(api.OK, -1, 6, owned("/g"))
		b.prepare(1, 1, c.o)
		b.refusesCloseIf(c.busy, 2, 5)
		if c.busy {
			b.decide(1, false)
			b.closes(api.OK, 2, 5)
		}
		b.decides(2, true).paths("/a", "/a/k", "/g")
	}
}

// refusesCloseIf holds that a Close is EBUSY, or well.
func (b *both) refusesCloseIf(busy bool, id, sess int64) {
	b.t.Helper()
	if busy {
		b.refusesClose(api.EBUSY, id, sess)
	} else {
		b.closes(api.OK, id, sess)
	}
}

// P18.2: EBUSY, if a prepared Op's session is that, also of Ops that are prepared to fail, wherever they are; of others not.
func TestCloseOfOneThatAsks(t *testing.T) {
	b := with(t, 20, plain("/a"))
	b.locally(api.OK, -1, 5, owned("/e"))
	b.prepares(api.OK, -1, 1, 5, plain("/x")).prepares(api.ENONE, 0, 2, 5, gone("/y")).prepares(api.OK, -1, 3, 6, get("/a"))
	b.refusesClose(api.EBUSY, 4, 5).refusesClose(api.EBUSY, 4, 6).closes(api.OK, 4, 7)
	b.decides(1, true, "/x").refusesClose(api.EBUSY, 5, 5).decides(2, true).closes(api.OK, 5, 5)
	b.decides(3, false).closes(api.OK, 6, 6).refusesClose(api.EBUSY, 8, 6)
	b.decides(5, true).decides(6, true).paths("/a", "/x")
}

// P18.2: between Close and Decide what is the session's is held, and nothing else; nothing is done for it; its nodes are there.
func TestCloseHolds(t *testing.T) {
	for _, commit := range []bool{true, false} {
		b := with(t, 20, plain("/a"), plain("/a/k"))
		b.locally(api.OK, -1, 5, owned("/a/e"), owned("/f"), create("/a/s", "", 3), plain("/mine"))
		b.locally(api.OK, -1, 6, owned("/a/g"))
		tree := tellTree(b.p.Tree())
		b.closes(api.OK, 9, 5).counts(4, 3, 0, 9)
		if s := tellTree(b.p.Tree()); s != tree || b.p.Closed(5) {
			t.Errorf("it is closed: %t, the tree is\n%s, was\n%s", b.p.Closed(5), s, tree)
		}
		for _, p := range []string{"/a/e", "/f", "/a/s0000000002", "/a", "/f/x", "/a/e/x"} {
			b.wantFail(api.EBUSY, 0, 1, get(p))
			b.refuses(api.EBUSY, 0, 8, 1, gone(p))
		}
		b.wantFail(api.EBUSY, -1, 5, get("/mine"))
		b.refuses(api.EBUSY, -1, 8, 5, get("/mine"))
		b.locally(api.OK, -1, 1, set("/mine", "x", -1), plain("/a/x"), gone("/a/k"))
		b.closes(api.OK, 10, 6).counts(12, 4, 0, 9, 10)
		b.decides(9, commit)
		if commit {
			b.counts(13, 1, 0, 10).paths("/a", "/a/g", "/a/x", "/mine")
			b.wantFail(api.ESESS, -1, 5, get("/mine"))
			b.refuses(api.ESESS, -1, 8, 5, get("/mine")).refusesClose(api.ESESS, 8, 5)
		} else {
			b.counts(13, 1, 0, 10).paths("/a", "/a/e", "/a/g", "/a/s0000000002", "/a/x", "/f", "/mine")
			b.locally(api.OK, -1, 5, gone("/a/e"), owned("/a/e2"))
			b.prepares(api.OK, -1, 11, 5, get("/mine")).decides(11, true, "/mine").closes(api.OK, 12, 5).decides(12, true)
		}
		if b.p.Closed(5) != true || b.p.Closed(6) {
			t.Errorf("5 and 6 are closed: %t %t", b.p.Closed(5), b.p.Closed(6))
		}
		b.decides(10, true).paths("/a", "/a/x", "/mine")
	}
}

// P18.2: a session without nodes, also one that never asked: nothing is held; behind Decide with commit it is closed.
func TestCloseWithoutNodes(t *testing.T) {
	b := with(t, 20, plain("/a"))
	for i, sess := range []int64{1, 5, 1 << 40, math.MaxInt64} {
		b.closes(api.OK, 10+int64(i), sess).counts(1+int64(i), 0, 0, 10+int64(i))
		b.decides(10+int64(i), true).counts(2+int64(i), 0, 0).paths("/a")
		if !b.p.Closed(sess) {
			t.Errorf("%d is not closed", sess)
		}
	}
}

// P18.2: what was purged makes room again, and its Parent has lost its Name, and counts it.
func TestClosePurges(t *testing.T) {
	b := with(t, 4, plain("/a"))
	b.locally(api.OK, -1, 5, owned("/a/e"), owned("/a/f"), owned("/g"))
	b.wantFail(api.EFULL, 0, 1, plain("/x"))
	b.closes(api.OK, 1, 5).decides(1, true)
	r := b.locally(api.OK, -1, 1, children("/a"))
	if len(r.Results[0].Names) != 0 || r.Results[0].Kids != 4 || r.Results[0].Count != 0 {
		t.Errorf("%s", tellReply(r))
	}
	b.locally(api.OK, -1, 1, plain("/x"), plain("/y"), plain("/z"))
	b.wantFail(api.EFULL, 0, 1, plain("/w"))
}
