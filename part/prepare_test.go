package part

import (
	"math"
	"testing"

	"aviary/api"
)

// refuses holds that a Prepare is refused, and changes nothing: its id may be prepared later.
func (b *both) refuses(e api.Errno, at int, id, sess int64, ops ...api.Op) *both {
	b.t.Helper()
	before := state(b.p)
	b.prepares(e, at, id, sess, ops...)
	if s := state(b.p); s != before {
		b.t.Errorf("Prepare(%d, %d, %s): refused, and there is\n%s, was\n%s", id, sess, tellOps(ops), s, before)
	}
	return b
}

// P18.2: Prepare with an id or a session below 1: EARG, also where all else would refuse it.
func TestPrepareNumbers(t *testing.T) {
	b := with(t, 3, plain("/a")).prepares(api.OK, -1, 1, 2, plain("/b"), plain("/c")).closes(api.OK, 2, 3).closes(api.OK, 3, 4).decides(3, true)
	for _, n := range notAbove {
		for _, ops := range [][]api.Op{{plain("/x")}, {get("/a")}, {}, nil, {plain("x")}, many(17, get("")), {plain("/b")}} {
			b.refuses(api.EARG, -1, n, 1, ops...)
			b.refuses(api.EARG, -1, 9, n, ops...)
			b.refuses(api.EARG, -1, n, n, ops...)
			b.refuses(api.EARG, -1, n, 3, ops...)
			b.refuses(api.EARG, -1, n, 4, ops...)
		}
	}
	b.counts(2, 2, 2, 1, 2)
	b.prepares(api.OK, -1, math.MaxInt64, math.MaxInt64, get("/a")).counts(2, 3, 2, 1, 2, math.MaxInt64).decides(math.MaxInt64, true, "/a")
}

// P18.2: an id is prepared once: not while it is, also to fail, also by Close; and not again, committed or not.
func TestPrepareAgain(t *testing.T) {
	b := with(t, 20, plain("/a"))
	b.prepares(api.OK, -1, 1, 2, plain("/b")).prepares(api.ENONE, 0, 2, 2, gone("/c")).closes(api.OK, 3, 3)
	b.prepares(api.OK, -1, 4, 2, plain("/d")).prepares(api.ENONE, 0, 5, 2, gone("/e")).closes(api.OK, 6, 6).decides(4, true, "/d").decides(5, true).decides(6, true)
	b.prepares(api.OK, -1, 7, 2, plain("/f")).prepares(api.ENONE, 0, 8, 2, gone("/g")).closes(api.OK, 9, 9).decides(7, false).decides(8, false).decides(9, false)
	for id := int64(1); id <= 9; id++ {
		for _, sess := range []int64{1, 2, 3, 6, 9} {
			for _, ops := range [][]api.Op{{plain("/x")}, {plain("/b")}, {get("/a")}, {}, many(17, plain("/x"))} {
				b.refuses(api.EARG, -1, id, sess, ops...)
			}
			b.closes(api.EARG, id, sess)
		}
	}
	b.counts(7, 2, 1, 1, 2, 3)
	b.prepares(api.OK, -1, 10, 2, plain("/x")).decides(10, true, "/x")
}

// P18.2: what was refused uses its id not up.
func TestPrepareRefusedIDs(t *testing.T) {
	b := with(t, 3, plain("/a")).prepares(api.OK, -1, 1, 2, plain("/b")).closes(api.OK, 2, 3).closes(api.OK, 3, 4).decides(3, true)
	b.refuses(api.EARG, -1, 9, 0, plain("/x")).refuses(api.EARG, -1, 9, 1).refuses(api.ELIMIT, -1, 9, 1, many(17, plain("/x"))...)
	b.refuses(api.ESESS, -1, 9, 4, plain("/x")).refuses(api.EBUSY, -1, 9, 3, plain("/x")).refuses(api.EBUSY, 0, 9, 1, plain("/b"))
	b.refuses(api.EBUSY, 1, 9, 1, gone("/a"), plain("/x"), plain("/y")).closes(api.EBUSY, 9, 2)
	b.prepares(api.OK, -1, 9, 1, plain("/x")).decides(9, true, "/x")
}

// P18.2: Prepare of what op's May refuses, as a request of that session: its error, of no Op, ahead of ESESS and EBUSY.
func TestPrepareMayNot(t *testing.T) {
	for what, c := range mayNot() {
		if c.r.Sess < 1 || c.r.Num < 1 {
			continue // that is Prepare's own
		}
		b := with(t, 3, plain("/a")).prepares(api.OK, -1, 1, 2, plain("/new"), plain("/c")).closes(api.OK, 2, 3).closes(api.OK, 3, 4).decides(3, true)
		before := state(b.p)
		for _, sess := range []int64{1, 2, 3, 4, math.MaxInt64} {
			if e, at := b.prepare(9, sess, c.r.Ops...); e != c.e || at != -1 || state(b.p) != before {
				t.Errorf("%s: %d at %d, want %d", what, e, at, c.e)
			}
		}
	}
}

// P18.2: ESESS of a session that is closed, EBUSY of one of which a Close is prepared: of no Op, ahead of what is blocked
// and of room.
func TestPrepareOfTheEnded(t *testing.T) {
	b := with(t, 3, plain("/a"), plain("/b")).prepares(api.OK, -1, 1, 2, plain("/c")).closes(api.OK, 2, 3).closes(api.OK, 3, 4).decides(3, true)
	for _, ops := range [][]api.Op{{get("/a")}, {get("/c")}, {plain("/d")}, {gone("/a"), plain("/c")}, {gone("/q")}, many(16, set("/a", "", -1))} {
		b.refuses(api.ESESS, -1, 9, 4, ops...)
		b.refuses(api.EBUSY, -1, 9, 3, ops...)
	}
	b.decides(2, false).prepares(api.OK, -1, 9, 3, gone("/a")).decides(9, true, "/a")
}

// P18.2: the first Op that waits for what another id holds is told; who asks as a session does not matter.
func TestPrepareBlocked(t *testing.T) {
	b := with(t, 30, plain("/a"), plain("/a/k"), plain("/b"), plain("/c"))
	b.locally(api.OK, -1, 5, owned("/c/e"))
	b.prepares(api.OK, -1, 1, 2, plain("/a/b")).prepares(api.ENONE, 0, 2, 2, gone("/z"), plain("/y/x")).closes(api.OK, 3, 5).prepares(api.OK, -1, 4, 2, number("/b/s"))
	for _, sess := range []int64{1, 2} {
		for at, ops := range [][]api.Op{
			{plain("/a/b"), gone("/z")},
			{plain("/q"), gone("/a"), plain("/a/b")},
			{plain("/q"), plain("/r"), gone("/a/b/c")},
			{check("/a/k", -1), plain("/q"), check("/a/k", 3), number("/a/s"), plain("/a/b")},
			{check("/a/k", -1), plain("/q"), check("/a/k", 3), plain("/a/s"), gone("/z/1"), gone("/z")},
			{plain("/q"), plain("/q/r"), gone("/q"), plain("/a/s"), plain("/a/t"), gone("/y")},
			{plain("/q"), plain("/q/r"), gone("/q"), plain("/a/s"), plain("/a/t"), plain("/y/1"), gone("/y/x/w")},
			{plain("/q"), plain("/q/r"), gone("/q"), plain("/a/s"), plain("/a/t"), plain("/y/1"), plain("/y/2"), check("/c/e", 0)},
			{plain("/1"), plain("/2"), plain("/3"), plain("/4"), plain("/5"), plain("/6"), plain("/7"), plain("/8"), plain("/b/k")},
			{plain("/1"), plain("/2"), plain("/3"), plain("/4"), plain("/5"), plain("/6"), plain("/7"), plain("/8"), plain("/9"), number("/c/s")},
		} {
			b.refuses(api.EBUSY, at, 9, sess, ops...)
		}
	}
	for _, o := range []api.Op{get("/a"), exists("/b"), children("/c"), get("/y/x"), get("/z/1"), exists("/c/e/1")} {
		b.refuses(api.EBUSY, 0, 9, 1, o)
	}
	b.prepares(api.OK, -1, 9, 1, plain("/a/c"), set("/a/k", "", -1), plain("/c/f")).counts(5, 9, 4, 1, 2, 3, 4, 9)
}

// P18.2: what is one's own is not in the way: a path twice, its Parent, what is under it, a number beside it.
func TestPrepareItsOwn(t *testing.T) {
	for _, c := range []struct {
		ops   []api.Op
		locks int
		paths []string
	}{
		{[]api.Op{plain("/b"), plain("/b/c"), gone("/b/c"), gone("/b")}, 2, []string{"/b", "/b/c", "/b/c", "/b"}},
		{[]api.Op{check("/a", 0), set("/a", "", 0), set("/a", "", 1), check("/a", 2)}, 1, []string{"/a", "/a", "/a", "/a"}},
		{[]api.Op{number("/a/s"), number("/a/s"), plain("/a/b"), gone("/a/s0000000000")}, 4, []string{"/a/s0000000000", "/a/s0000000001", "/a/b", "/a/s0000000000"}},
		{[]api.Op{number("/a/s"), plain("/a/s0000000000/x"), set("/a", "", -1)}, 3, []string{"/a/s0000000000", "/a/s0000000000/x", "/a"}},
		{many(16, check("/a", 0)), 1, []string{"/a", "/a", "/a", "/a", "/a", "/a", "/a", "/a", "/a", "/a", "/a", "/a", "/a", "/a", "/a", "/a"}},
		{[]api.Op{get("/a")}, 1, []string{"/a"}},
	} {
		b := with(t, 20, plain("/a")).prepares(api.OK, -1, 5, 1, c.ops...)
		b.counts(1, c.locks, countCreates(c.ops), 5).decides(5, true, c.paths...).counts(2, 0, 0)
	}
}

// P18.2: EBUSY for room, as Local: by what is prepared already, its own Creates not twice.
func TestPrepareRoom(t *testing.T) {
	b := with(t, 6, plain("/a"), plain("/b")).prepares(api.OK, -1, 1, 2, plain("/c")).counts(2, 1, 1, 1)
	b.refuses(api.EBUSY, 1, 9, 1, gone("/a"), plain("/d"), plain("/e"), plain("/f"), plain("/g"))
	b.refuses(api.EBUSY, 0, 9, 1, plain("/d"), plain("/e"), plain("/f"), number("/b/s"))
	b.refuses(api.EBUSY, 3, 9, 1, plain("/d"), plain("/e"), plain("/f"), plain("/c"), plain("/g")) // what is blocked is told ahead of room
	b.prepares(api.OK, -1, 3, 1, gone("/b"), plain("/d"), plain("/e")).counts(2, 4, 3, 1, 3)
	b.prepares(api.OK, -1, 4, 1, plain("/f")).counts(2, 5, 4, 1, 3, 4) // at room
	b.refuses(api.EBUSY, 0, 9, 1, plain("/g")).refuses(api.EBUSY, 0, 9, 1, plain("/a")).refuses(api.EBUSY, 1, 9, 1, gone("/none"), plain("/g"))
	b.prepares(api.OK, -1, 5, 1, set("/a", "x", -1)).prepares(api.ENONE, 0, 6, 1, gone("/none")).counts(2, 7, 4, 1, 3, 4, 5, 6)
	b.decides(4, true, "/f").refuses(api.EBUSY, 0, 9, 1, plain("/g"))
	b.decides(3, true, "/b", "/d", "/e").prepares(api.OK, -1, 7, 1, plain("/g")).decides(1, true, "/c").decides(7, true, "/g")
	b.paths("/a", "/c", "/d", "/e", "/f", "/g").refuses(api.EARG, -1, 7, 1, plain("/h"))
	b.prepares(api.EFULL, 0, 9, 1, plain("/h")).counts(6, 3, 0, 5, 6, 9) // nothing is wanted: it is for multi to say
}

// P18.2: where nothing is wanted, it is multi that asks for room: as many as there are, one more, and what goes ahead of it.
func TestPrepareRoomWithoutWanted(t *testing.T) {
	b := with(t, 3, plain("/a")).prepares(api.OK, -1, 1, 2, plain("/b"), plain("/c")).decides(1, false)
	b.prepares(api.EFULL, 3, 2, 2, plain("/b"), plain("/c"), check("/a", 0), plain("/d")).counts(2, 4, 0, 2)
	b.prepares(api.OK, -1, 3, 2, plain("/e"), plain("/f"), gone("/e"), plain("/g")).counts(2, 7, 3, 2, 3)
	b.refuses(api.EBUSY, 0, 9, 1, plain("/h")).decides(3, true, "/e", "/f", "/e", "/g").paths("/a", "/f", "/g")
	b.prepares(api.OK, -1, 4, 2, gone("/f"), gone("/g"), plain("/h")).counts(3, 7, 1, 2, 4)
	b.refuses(api.EBUSY, 1, 9, 1, gone("/q"), plain("/i")).decides(2, true).decides(4, true, "/f", "/g", "/h").paths("/a", "/h")
}

// P18.2: what multi would refuse is prepared to fail: its error and its place are told; all that it wants is held, also
// behind the place; nothing of it is wanted; and whatever is decided, nothing is done.
func TestPrepareToFail(t *testing.T) {
	for _, c := range []struct {
		e     api.Errno
		at    int
		ops   []api.Op
		locks int
	}{
		{api.ENONE, 0, []api.Op{gone("/q")}, 1},
		{api.ENONE, 1, []api.Op{plain("/b"), set("/q", "", -1), plain("/c")}, 3},
		{api.ENONE, 2, []api.Op{plain("/b"), plain("/b/c"), plain("/q/r"), gone("/z"), number("/x/y")}, 6},
		{api.EEXIST, 1, []api.Op{plain("/b"), plain("/b")}, 1},
		{api.EEXIST, 0, []api.Op{plain("/a")}, 1},
		{api.EVERSION, 1, []api.Op{check("/a", 0), check("/a", 1)}, 1},
		{api.EVERSION, 0, []api.Op{remove("/a/k", 4), plain("/b")}, 2},
		{api.EKIDS, 2, []api.Op{plain("/b"), plain("/c"), gone("/a")}, 3},
		{api.EEPH, 0, []api.Op{plain("/e/f")}, 1},
		{api.EEPH, 1, []api.Op{owned("/b"), number("/b/s")}, 2},
		{api.EFULL, 3, []api.Op{plain("/b"), plain("/c"), plain("/d"), plain("/f")}, 4},
		{api.ENONE, 0, []api.Op{get("/q")}, 1},
		{api.ENONE, 0, []api.Op{number("/q/s")}, 2},
	} {
		for _, commit := range []bool{true, false} {
			b := with(t, 6, plain("/a"), plain("/a/k"), owned("/e"))
			tree := tellTree(b.p.Tree())
			b.prepares(c.e, c.at, 5, 7, c.ops...).counts(3, c.locks, 0, 5)
			for _, o := range c.ops {
				b.wantFail(api.EBUSY, 0, 1, get(o.Path))
				b.refuses(api.EBUSY, 1, 9, 7, plain("/w"), gone(o.Path))
			}
			b.closes(api.EBUSY, 9, 7)
			if s := tellTree(b.p.Tree()); s != tree {
				t.Errorf("%s: prepared to fail, the tree is\n%s, was\n%s", tellOps(c.ops), s, tree)
			}
			b.decides(5, commit).counts(int64(4+len(c.ops)), 0, 0)
			if s := tellTree(b.p.Tree()); s != tree {
				t.Errorf("%s: failed, the tree is\n%s, was\n%s", tellOps(c.ops), s, tree)
			}
			b.locally(api.OK, -1, 7, plain("/b"))
			b.closes(api.OK, 9, 7)
		}
	}
}

// P18.2: what is prepared changes nothing that is seen but what is held and wanted, till it is decided; Prepare takes no number.
func TestPrepareChangesNoTree(t *testing.T) {
	b := with(t, 20, plain("/a"), plain("/b"))
	tree := tellTree(b.p.Tree())
	b.prepares(api.OK, -1, 1, 2, create("/c", "x", 0), number("/b/s"), gone("/a")).counts(2, 4, 2, 1)
	b.prepares(api.OK, -1, 2, 3, owned("/d"), owned("/d2")).counts(2, 6, 4, 1, 2)
	if s := tellTree(b.p.Tree()); s != tree {
		t.Errorf("the tree is\n%s, was\n%s", s, tree)
	}
	b.locally(api.OK, -1, 1, plain("/e"))
}
