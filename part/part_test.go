package part

import (
	"math"
	"slices"
	"strconv"
	"strings"
	"testing"
	"unsafe"

	"aviary/api"
	"aviary/op"
)

// The chapter's example.
func TestExample(t *testing.T) {
	b := pair(t, 100)
	b.prepares(api.OK, -1, 1, 1, plain("/a"))
	b.locally(api.EBUSY, 0, 1, get("/a"))
	b.decides(1, true, "/a")
	b.locally(api.OK, -1, 1, get("/a"))
}

// P18.1: New refuses what tree's New does, and gives nothing then.
func TestNewRefused(t *testing.T) {
	for _, room := range []int{0, -1, math.MinInt, 501, 502, 1 << 32, 1<<32 + 1, math.MaxInt} {
		if p, e := New(room); p != nil || e != api.EARG {
			t.Errorf("New(%d): %v, %d", room, p, e)
		}
	}
}

// P18.1: a new one is empty, and has just its room, from the least to the greatest.
func TestNew(t *testing.T) {
	for _, room := range []int{1, 2, 499, 500} {
		b := pair(t, room).counts(0, 0, 0).paths()
		if _, e := b.p.Decide(1, true); e != api.ENONE {
			t.Errorf("Decide: %d", e)
		}
		for i := range room {
			if r := b.p.Local(op.Request{Sess: 1, Num: 1, Ops: []api.Op{plain("/n" + strconv.Itoa(i))}}); r.Err != api.OK || r.Zxid != int64(i+1) {
				t.Fatalf("New(%d), node %d: %s", room, i, tellReply(r))
			}
		}
		if r := b.p.Local(op.Request{Sess: 1, Num: 1, Ops: []api.Op{plain("/more")}}); r.Err != api.EFULL || r.At != 0 {
			t.Errorf("New(%d), one more: %s", room, tellReply(r))
		}
	}
}

// P18.1: what one part is told another does not know.
func TestPartsAreTheirOwn(t *testing.T) {
	a, b := pair(t, 5), pair(t, 5)
	a.locally(api.OK, -1, 1, plain("/a"))
	a.prepares(api.OK, -1, 1, 1, plain("/b")).closes(api.OK, 2, 2).prepares(api.OK, -1, 3, 1, plain("/c")).decides(3, true, "/c")
	a.closes(api.OK, 4, 5).decides(4, true).counts(3, 1, 1, 1, 2).paths("/a", "/c")
	b.same("another")
	b.prepares(api.OK, -1, 1, 5, plain("/b")).prepares(api.OK, -1, 3, 2, plain("/c")).counts(0, 2, 2, 1, 3)
	a.same("the first")
}

// P18.2: Waiting tells ids rising, whatever their order, and of what was decided nothing.
func TestWaiting(t *testing.T) {
	b := pair(t, 20).counts(0, 0, 0)
	b.prepares(api.OK, -1, 5, 1, plain("/a")).counts(0, 1, 1, 5)
	b.prepares(api.ENONE, 0, math.MaxInt64, 1, gone("/b")).counts(0, 2, 1, 5, math.MaxInt64)
	b.closes(api.OK, 1<<32, 2).counts(0, 2, 1, 5, 1<<32, math.MaxInt64)
	b.prepares(api.OK, -1, 1, 1, plain("/d"), plain("/e")).counts(0, 4, 3, 1, 5, 1<<32, math.MaxInt64)
	b.prepares(api.OK, -1, 1<<32+1, 1, plain("/f")).counts(0, 5, 4, 1, 5, 1<<32, 1<<32+1, math.MaxInt64)
	b.prepares(api.EBUSY, 0, 3, 1, plain("/f")).counts(0, 5, 4, 1, 5, 1<<32, 1<<32+1, math.MaxInt64)
	b.decides(5, true, "/a").counts(1, 4, 3, 1, 1<<32, 1<<32+1, math.MaxInt64)
	b.decides(1, false).counts(2, 2, 1, 1<<32, 1<<32+1, math.MaxInt64)
	b.decides(math.MaxInt64, true).counts(3, 1, 1, 1<<32, 1<<32+1)
	b.decides(1<<32, true).counts(4, 1, 1, 1<<32+1)
	b.decides(1<<32+1, true, "/f").counts(5, 0, 0)
}

// P18.2: Closed tells of no session but those whose Close was committed.
func TestClosed(t *testing.T) {
	b := pair(t, 20)
	b.closes(api.OK, 1, 7).closes(api.OK, 2, 1<<32+7).closes(api.OK, 3, math.MaxInt64).prepares(api.OK, -1, 4, 8, plain("/a"))
	b.decides(2, false).decides(3, true).decides(4, true, "/a")
	for _, sess := range append(notAbove, 1, 7, 8, 1<<32+7, 1<<32, math.MaxInt64-1) {
		if b.p.Closed(sess) {
			t.Errorf("%d is closed", sess)
		}
	}
	if !b.p.Closed(math.MaxInt64) {
		t.Errorf("%d is not closed", int64(math.MaxInt64))
	}
	b.decides(1, true)
	if !b.p.Closed(7) || !b.p.Closed(math.MaxInt64) || b.p.Closed(1<<32+7) || b.p.Closed(8) {
		t.Errorf("of 7, the greatest, 1<<32+7, 8 it tells: %t %t %t %t", b.p.Closed(7), b.p.Closed(math.MaxInt64), b.p.Closed(1<<32+7), b.p.Closed(8))
	}
}

// R4: what is handed out is the caller's: a tree, ids, Results, Names; what is done to them the part does not know, and what
// the part does they don't.
func TestHandedOut(t *testing.T) {
	b := with(t, 20, plain("/a"), plain("/a/b"), plain("/a/c"), plain("/a/d"))
	b.prepares(api.OK, -1, 1, 1, set("/a/c", "x", -1)).prepares(api.OK, -1, 3, 1, plain("/z"))
	b.prepares(api.OK, -1, 5, 1, plain("/f"), plain("/g"), plain("/h"))
	x, y := b.p.Tree(), b.p.Tree()
	before := tellTree(x)
	x.Do(plain("/v"), 1, 1)
	x.Do(set("/a", "v", -1), 1, 1)
	x.Drop("/a/b")
	if tellTree(y) != before || x == y {
		t.Errorf("two trees that were handed out are one")
	}
	ids, others := b.p.Waiting(), b.p.Waiting()
	for i := range ids[:cap(ids)] {
		ids[:cap(ids)][i] = 99
	}
	if !slices.Equal(others, []int64{1, 3, 5}) {
		t.Errorf("two lists of ids that were handed out are one: %d", others)
	}
	b.same("behind what was done to what was handed out")
	l, _ := b.decide(5, true)
	clear(l[:cap(l)])
	b.decides(1, true, "/a/c").decides(3, true, "/z")
	r := b.locally(api.OK, -1, 1, children("/a"))
	names := r.Results[0].Names
	for i := range names[:cap(names)] {
		names[:cap(names)][i] = "!"
	}
	clear(r.Results)
	b.same("behind what was done to Results")
	if r := b.locally(api.OK, -1, 1, children("/a")); strings.Join(r.Results[0].Names, " ") != "b c d" {
		t.Errorf("Names that were handed out are the part's: %s", tellReply(r))
	}
	if tellTree(y) != before {
		t.Errorf("a tree that was handed out changes with the part")
	}
}

// R4: a list that is handed in is neither changed, its spare room included, nor kept.
func TestHandedIn(t *testing.T) {
	for _, commit := range []bool{true, false} {
		for used := 1; used <= 4; used++ {
			whole := []api.Op{create("/b", "1", 1), number("/a/s"), set("/a", "2", 0), gone("/c"), plain("/spare"), plain("/spare")}
			before := slices.Clone(whole)
			b := with(t, 20, plain("/a"), plain("/c"))
			b.prepares(api.OK, -1, 1, 1, whole[:used]...)
			b.prepares(api.ENONE, used, 2, 1, failing(used)...)
			if !slices.Equal(whole, before) {
				t.Errorf("Prepare has made %v of the list", whole)
			}
			for i := range whole {
				whole[i] = gone("/a")
			}
			b.same("behind another list")
			b.decide(1, commit)
			b.decides(2, commit)
		}
	}
	whole := []api.Op{plain("/a"), plain("/b"), plain("/spare")}
	before := slices.Clone(whole)
	b := pair(t, 20)
	b.locally(api.OK, -1, 1, whole[:2]...)
	b.prepares(api.OK, -1, 1, 1, gone("/b"))
	b.locally(api.EBUSY, 1, 1, gone("/a"), gone("/b"))
	b.locally(api.EEXIST, 0, 1, whole[:1]...)
	if !slices.Equal(whole, before) {
		t.Errorf("Local has made %v of the list", whole)
	}
}

// failing makes n Creates, and behind them an Op that fails.
func failing(n int) []api.Op {
	var ops []api.Op
	for i := range n {
		ops = append(ops, plain("/other"+strconv.Itoa(i)))
	}
	return append(ops, gone("/none"))
}

// inside tells whether a text stands in another one's memory.
func inside(s, in string) bool {
	at, begin := uintptr(unsafe.Pointer(unsafe.StringData(s))), uintptr(unsafe.Pointer(unsafe.StringData(in)))
	return at >= begin && at < begin+uintptr(len(in))
}

// LANGUAGE 7: texts that are handed in are neither kept nor answered: a short one may be a piece of a long one.
func TestTextsAreNotKept(t *testing.T) {
	long := strings.Repeat("/abc/k/xyz", 1000)
	b := with(t, 20, plain("/abc"))
	ops := []api.Op{create(long[:6], long[1:4], 0), set(long[:4], long[4:9], -1), create(long[10:14]+"/s", long[:9], 2)}
	b.prepares(api.OK, -1, 1, 1, ops...)
	b.prepares(api.OK, -1, 2, 1, create(long[6:10], long[:1000], 1))
	var kept []string
	for _, one := range b.p.waiting {
		for _, o := range one.ops {
			kept = append(kept, o.Path, o.Data)
		}
	}
	if len(kept) != 8 {
		t.Fatalf("kept are %q", kept)
	}
	l, _ := b.decide(1, true)
	for _, r := range l {
		kept = append(kept, r.Path, r.Data)
	}
	for _, s := range kept {
		if inside(s, long) {
			t.Errorf("%.20q is the text that was handed in", s)
		}
	}
}

// R5: the same calls, the same answers, the same state.
func TestSameCallsSameAnswers(t *testing.T) {
	run := func() string {
		b := with(t, 9, plain("/a"), owned("/e"), owned("/a/e"))
		b.prepares(api.OK, -1, 3, 2, number("/a/s"), plain("/x"))
		b.prepares(api.ENONE, 1, 2, 2, plain("/y"), gone("/q"))
		b.closes(api.EBUSY, 4, 1)
		b.decides(3, true, "/a/s0000000001", "/x")
		b.closes(api.OK, 4, 1).counts(4, 4, 0, 2, 4)
		s := tellReply(b.locally(api.EBUSY, 1, 2, plain("/z"), plain("/y")))
		return s + state(b.p) + state(b.decides(2, true).decides(4, true).p)
	}
	if a, b := run(), run(); a != b {
		t.Errorf("they part:\n%s\n%s", a, b)
	}
}

// As many as may come: no call but Waiting takes a walk through all that is prepared, or was.
func TestMany(t *testing.T) {
	const n = 100000
	b := with(t, 9, plain("/a"))
	for i := int64(1); i <= n; i++ {
		if e, at := b.p.Close(i, i+1); e != api.OK || at != -1 {
			t.Fatalf("Close(%d): %d", i, e)
		}
		if r := b.p.Local(op.Request{Sess: 1, Num: 1, Ops: []api.Op{get("/a")}}); r.Err != api.OK || r.Zxid != i+1 {
			t.Fatalf("Local %d: %s", i, tellReply(r))
		}
	}
	if l := b.p.Waiting(); len(l) != n || !slices.IsSorted(l) {
		t.Errorf("%d wait", len(l))
	}
	for _, sess := range []int64{2, n / 2, n + 1} {
		if r := b.p.Local(op.Request{Sess: sess, Num: 1, Ops: []api.Op{get("/a")}}); r.Err != api.EBUSY || r.At != -1 {
			t.Fatalf("Local of %d: %s", sess, tellReply(r))
		}
	}
	for i := int64(1); i <= n; i++ {
		if _, e := b.p.Decide(i, i%2 == 0); e != api.OK || b.p.Closed(i+1) != (i%2 == 0) {
			t.Fatalf("Decide(%d): %d", i, e)
		}
	}
	b.counts(2*n+4, 0, 0)
}
