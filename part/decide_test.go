package part

import (
	"fmt"
	"math"
	"testing"

	"aviary/api"
)

// P18.2: Decide of what is not prepared: ENONE, no Results, and nothing changes, no number either.
func TestDecideNone(t *testing.T) {
	b := with(t, 20, plain("/a")).prepares(api.OK, -1, 1, 2, plain("/b")).prepares(api.OK, -1, 2, 2, plain("/c")).prepares(api.ENONE, 0, 3, 2, gone("/d"))
	b.closes(api.OK, 4, 4).closes(api.OK, 5, 5).prepares(api.OK, -1, 6, 2, plain("/e")).refuses(api.EBUSY, 0, 8, 2, plain("/b")).refusesClose(api.EBUSY, 9, 2)
	b.decides(1, true, "/b").decides(2, false).decides(3, true).decides(4, true).decides(5, false)
	before := state(b.p)
	for _, id := range append(notAbove, 1, 2, 3, 4, 5, 7, 8, 9, 1<<32+6, math.MaxInt64) {
		for _, commit := range []bool{true, false} {
			if l, e := b.decide(id, commit); e != api.ENONE || len(l) != 0 || state(b.p) != before {
				t.Errorf("Decide(%d, %t): %d, %s", id, commit, e, tellResults(l))
			}
		}
	}
	b.decides(6, true, "/e")
}

// P18.2: each Decide that is answered OK is a transaction: one more, also where nothing is done; it is that of what is made.
func TestDecideZxid(t *testing.T) {
	b := with(t, 20, plain("/a"))
	b.prepares(api.OK, -1, 1, 2, plain("/b"), set("/a", "x", 0)).prepares(api.ENONE, 0, 2, 2, gone("/c")).closes(api.OK, 3, 3).prepares(api.OK, -1, 4, 2, plain("/d"))
	b.locally(api.OK, -1, 1, plain("/e"))
	b.counts(2, 4, 2, 1, 2, 3, 4).decides(2, true).counts(3, 3, 2, 1, 3, 4).decides(3, true).counts(4, 3, 2, 1, 4).decides(4, false).counts(5, 2, 1, 1)
	l, _ := b.decide(1, true)
	if b.counts(6, 0, 0); l[0].Made != 6 || l[0].Changed != 6 || l[1].Made != 1 || l[1].Changed != 6 {
		t.Errorf("%s", tellResults(l))
	}
	b.locally(api.OK, -1, 1, get("/b"))
}

// P18.2: all locks of an id go, committed or not, and no other's; what it wanted is free then, and its room.
func TestDecideLetsGo(t *testing.T) {
	for _, commit := range []bool{true, false} {
		b := with(t, 20, plain("/a"), plain("/f"))
		b.locally(api.OK, -1, 5, owned("/f/e"), owned("/h"))
		b.prepares(api.OK, -1, 1, 2, plain("/a/b"), plain("/c"), number("/a/s")).prepares(api.OK, -1, 2, 2, plain("/d"), plain("/i")).closes(api.OK, 3, 5)
		b.prepares(api.ENONE, 1, 4, 2, plain("/j"), gone("/k")).counts(3, 10, 5, 1, 2, 3, 4)
		b.decide(1, commit)
		b.counts(4, 6, 2, 2, 3, 4)
		for _, p := range []string{"/d", "/i", "/f/e", "/h", "/f", "/j", "/k"} {
			b.wantFail(api.EBUSY, 0, 1, check(p, -1))
		}
		b.locally(api.OK, -1, 1, plain("/a/n"), number("/a/s"), set("/a", "", -1))
		b.decide(4, commit)
		b.counts(13, 4, 2, 2, 3)
		b.decide(3, commit)
		b.counts(14, 2, 2, 2)
		b.locally(api.OK, -1, 1, plain("/j"), plain("/k"), set("/f", "", -1))
		b.wantFail(api.EBUSY, 1, 1, plain("/l"), plain("/d"))
		b.decide(2, commit)
		b.counts(17, 0, 0)
		b.locally(api.OK, -1, 1, set("/a", "", -1), plain("/l"))
	}
}

// P18.2: the Results are multi's, each field; without commit there are none, and nothing is done.
func TestDecideResults(t *testing.T) {
	ops := []api.Op{create("/b", "xy", 1), create("/a/s", "z", 3), set("/a", "new", 0), check("/a", 1), gone("/c"), plain("/c")}
	b := with(t, 20, create("/a", "old", 0), plain("/c")).prepares(api.OK, -1, 1, 7, ops...)
	l, e := b.decide(1, true)
	w := []api.Result{
		{Path: "/b", Stat: api.Stat{Made: 3, Changed: 3, Owner: 7, Length: 2}},
		{Path: "/a/s0000000000", Stat: api.Stat{Made: 3, Changed: 3, Owner: 7, Length: 1}},
		{Path: "/a", Stat: api.Stat{Made: 1, Changed: 3, Version: 1, Kids: 1, Length: 3, Count: 1}},
		{Path: "/a"},
		{Path: "/c"},
		{Path: "/c", Stat: api.Stat{Made: 3, Changed: 3}},
	}
	if e != api.OK || tellResults(l) != tellResults(w) {
		t.Errorf("%d, %s\nwant %s", e, tellResults(l), tellResults(w))
	}
	b = with(t, 20, create("/a", "old", 0), plain("/c"))
	tree := tellTree(b.p.Tree())
	b.prepares(api.OK, -1, 1, 7, ops...)
	if l, e := b.decide(1, false); e != api.OK || len(l) != 0 || tellTree(b.p.Tree()) != tree {
		t.Errorf("%d, %s\n%s", e, tellResults(l), tellTree(b.p.Tree()))
	}
	b.prepares(api.OK, -1, 2, 7, get("/a"))
	if l, e := b.decide(2, true); e != api.OK || len(l) != 1 || l[0].Data != "old" || l[0].Made != 1 {
		t.Errorf("%d, %s", e, tellResults(l))
	}
	b.prepares(api.OK, -1, 3, 7, children("/a")).decides(3, false)
}

// between makes calls that may come between a Prepare and its Decide: they are aimed at what is foreseen.
func between(b *both, ops []api.Op) {
	for i, o := range ops {
		id := int64(1000 + 100*i)
		for _, p := range []string{o.Path, above(o.Path), o.Path + "/x", o.Path + "0000000000", o.Path + "0000000000/x", "/a", "/a/k", "/e", "/e/x", "/new"} {
			for _, one := range append(all(p), number(p)) {
				b.p.Local(request(1, one))
				b.m.local(request(1, one))
				b.same(fmt.Sprintf("%+v", one))
				b.prepare(id, 6, one)
				b.decide(id, true)
				id++
			}
		}
		b.close(id, 5)
		b.decide(id, true)
	}
	for i := range 12 {
		b.p.Local(request(1, news("/fill", i+1)[i:]...))
		b.m.local(request(1, news("/fill", i+1)[i:]...))
		b.prepare(int64(5000+i), 6, news("/fill", i+1)[i:]...)
		b.decide(int64(5000+i), true)
	}
	b.same("what came between")
}

// P18.2: what was answered OK goes as it was foreseen, whatever came between: other requests of the same paths, of those
// above and below, the end of another session, and all the room that is left.
func TestDecideAsForeseen(t *testing.T) {
	for _, ops := range [][]api.Op{
		{plain("/n")}, {plain("/a/n")}, {gone("/a/k")}, {gone("/a/k"), gone("/a")}, {set("/a", "x", 0)}, {check("/a", 0)}, {number("/a/s")}, {number("/a/k/s"), number("/a/s")},
		{plain("/n"), plain("/n/m"), plain("/n/m/o")}, {gone("/a/k"), plain("/a/k"), plain("/a/k/j")}, {number("/a/s"), plain("/a/s0000000001/x")}, {number("/a/s"), gone("/a/s0000000001")},
		{gone("/e")}, {gone("/e"), plain("/e"), plain("/e/f")}, {check("/e", 0)}, {get("/a")}, {children("/a")}, {exists("/a/k")}, {owned("/o"), owned("/a/o")},
		{gone("/e"), gone("/a/k"), plain("/1"), plain("/2"), plain("/3"), plain("/4"), plain("/5"), plain("/6"), plain("/7")},
	} {
		b := with(t, 8, plain("/a"), plain("/a/k"))
		b.locally(api.OK, -1, 5, owned("/e"))
		b.prepares(api.OK, -1, 1, 2, ops...)
		between(b, ops)
		l, e := b.decide(1, true) // the model tells what was foreseen
		if e != api.OK || len(l) != len(ops) {
			t.Errorf("%s: %d, %s", tellOps(ops), e, tellResults(l))
		}
		b.counts(b.p.Zxid(), 0, 0)
	}
}

// P18.2: what was prepared at a full tree, with Deletes ahead, keeps its room, whatever goes and comes between.
func TestDecideKeepsItsRoom(t *testing.T) {
	b := with(t, 3, plain("/a"), plain("/b"), plain("/c")).prepares(api.OK, -1, 1, 2, gone("/a"), plain("/x"))
	b.prepares(api.OK, -1, 2, 2, gone("/b"))
	b.wantFail(api.EBUSY, 1, 1, gone("/c"), plain("/y"))
	b.decides(2, true, "/b")
	b.wantFail(api.EBUSY, 0, 1, plain("/y"))
	b.locally(api.OK, -1, 1, gone("/c"))
	b.locally(api.OK, -1, 1, plain("/y"))
	b.wantFail(api.EBUSY, 0, 1, plain("/z"))
	b.decides(1, true, "/a", "/x").paths("/x", "/y")
	b.locally(api.OK, -1, 1, plain("/z"))
}
