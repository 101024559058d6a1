package part

import (
	"fmt"
	"maps"
	"math/rand"
	"slices"
	"strings"
	"testing"

	"aviary/api"
	"aviary/multi"
	"aviary/op"
	"aviary/reply"
	"aviary/tree"
)

// marker is the zxid of what is foreseen: at the decision the transaction's own stands in its place.
const marker = 1 << 50

// ask is what the model keeps of what is prepared.
type ask struct {
	sess          int64
	ops           []api.Op
	closes, fails bool
	foreseen      []api.Result
}

// model is the chapter's words, one by one, on a tree by itself.
type model struct {
	tree    *tree.Tree
	room    int
	zxid    int64
	held    map[string]int64
	waiting map[int64]ask
	decided map[int64]bool
	closed  map[int64]bool
}

// above tells a path's Parent; "" of one that has none.
func above(p string) string { return p[:strings.LastIndex(p, "/")] }

// wantedBy tells which paths an Op wants.
func wantedBy(o api.Op) []string {
	if o.Kind == api.Create && o.Flags >= 2 {
		return []string{o.Path, above(o.Path)}
	}
	return []string{o.Path}
}

func countCreates(ops []api.Op) int {
	n := 0
	for _, o := range ops {
		if o.Kind == api.Create {
			n++
		}
	}
	return n
}

func (m *model) blocked(who int64, p string) bool {
	for other, holder := range m.held {
		if holder != who && (other == p || other == above(p) || above(other) == p) {
			return true
		}
	}
	return false
}

func (m *model) wanted() int {
	n := 0
	for _, a := range m.waiting {
		if !a.fails {
			n += countCreates(a.ops)
		}
	}
	return n
}

func (m *model) isClosing(sess int64) bool {
	for _, a := range m.waiting {
		if a.closes && a.sess == sess {
			return true
		}
	}
	return false
}

func (m *model) refused(who, sess int64, ops []api.Op) (api.Errno, int) {
	if m.closed[sess] {
		return api.ESESS, -1
	}
	if m.isClosing(sess) {
		return api.EBUSY, -1
	}
	for i, o := range ops {
		for _, p := range wantedBy(o) {
			if m.blocked(who, p) {
				return api.EBUSY, i
			}
		}
	}
	for i, o := range ops {
		if w := m.wanted(); o.Kind == api.Create && w > 0 && w+m.tree.Len()+countCreates(ops) > m.room {
			return api.EBUSY, i
		}
	}
	return api.OK, -1
}

func (m *model) local(r op.Request) reply.Reply {
	if e := op.May(r); e != api.OK {
		return reply.Reply{Num: r.Num, Err: e, At: -1}
	}
	m.zxid++
	e, at := m.refused(0, r.Sess, r.Ops)
	if e == api.OK {
		return multi.Request(m.tree, r, m.zxid)
	}
	told := reply.Reply{Num: r.Num, Zxid: m.zxid, Err: e, At: at}
	for i := range r.Ops {
		told.Results = append(told.Results, api.Result{Err: api.ESKIP})
		if i == at {
			told.Results[i].Err = e
		}
	}
	return told
}

func (m *model) mayNot(id, sess int64) bool {
	_, waits := m.waiting[id]
	return id < 1 || sess < 1 || waits || m.decided[id]
}

func (m *model) prepare(id, sess int64, ops []api.Op) (api.Errno, int) {
	if m.mayNot(id, sess) {
		return api.EARG, -1
	}
	if e := op.May(op.Request{Sess: sess, Num: 1, Ops: ops}); e != api.OK {
		return e, -1
	}
	if e, at := m.refused(id, sess, ops); e != api.OK {
		return e, at
	}
	told, ok := multi.Do(m.tree.Copy(), sess, marker, ops...)
	m.waiting[id] = ask{sess: sess, ops: slices.Clone(ops), fails: !ok, foreseen: told.Results}
	for _, o := range ops {
		for _, p := range wantedBy(o) {
			m.held[p] = id
		}
	}
	return told.Err, told.At
}

func (m *model) close(id, sess int64) (api.Errno, int) {
	if m.mayNot(id, sess) {
		return api.EARG, -1
	}
	if m.closed[sess] {
		return api.ESESS, -1
	}
	for _, a := range m.waiting {
		if a.sess == sess {
			return api.EBUSY, -1
		}
	}
	for _, p := range m.tree.Of(sess) {
		if m.blocked(id, p) {
			return api.EBUSY, -1
		}
	}
	for _, p := range m.tree.Of(sess) {
		m.held[p] = id
	}
	m.waiting[id] = ask{sess: sess, closes: true}
	return api.OK, -1
}

func (m *model) decide(id int64, commit bool) ([]api.Result, api.Errno) {
	a, ok := m.waiting[id]
	if !ok {
		return nil, api.ENONE
	}
	m.zxid++
	maps.DeleteFunc(m.held, func(_ string, holder int64) bool { return holder == id })
	delete(m.waiting, id)
	m.decided[id] = true
	switch {
	case !commit, a.fails:
		return nil, api.OK
	case a.closes:
		multi.Purge(m.tree, a.sess)
		m.closed[a.sess] = true
		return nil, api.OK
	}
	multi.Do(m.tree, a.sess, m.zxid, a.ops...)
	// What is told is not what was done just now, but what was foreseen.
	for i := range a.foreseen {
		if a.foreseen[i].Made == marker {
			a.foreseen[i].Made = m.zxid
		}
		if a.foreseen[i].Changed == marker {
			a.foreseen[i].Changed = m.zxid
		}
	}
	return a.foreseen, api.OK
}

// state tells what a part's state should be.
func (m *model) state() string {
	s := fmt.Sprintf("Zxid %d Wanted %d Locks %d Waiting %v", m.zxid, m.wanted(), len(m.held), append([]int64{}, slices.Sorted(maps.Keys(m.waiting))...))
	for _, sess := range sessions {
		s += fmt.Sprintf(" %t", m.closed[sess])
	}
	return s + "\n" + tellTree(m.tree)
}

// both is a part and its model: each call is made of both, and all that can be told is held against each other.
type both struct {
	t testing.TB
	p *Part
	m *model
}

func pair(t testing.TB, room int) *both {
	t.Helper()
	p, e := New(room)
	x, _ := tree.New(room)
	if e != api.OK || p == nil {
		t.Fatalf("New(%d): %d", room, e)
	}
	b := &both{t, p, &model{tree: x, room: room, held: map[string]int64{}, waiting: map[int64]ask{}, decided: map[int64]bool{}, closed: map[int64]bool{}}}
	b.same("New")
	return b
}

// same holds all that a part tells, and what it keeps, against the model.
func (b *both) same(what string) {
	b.t.Helper()
	if s, w := state(b.p), b.m.state(); s != w {
		b.t.Fatalf("%.300s: the part is\n%.3000s\nwant\n%.3000s", what, s, w)
	}
	known := maps.Clone(b.m.closed)
	for _, a := range b.m.waiting {
		known[a.sess] = true
	}
	if len(b.p.waiting) != len(b.m.waiting) || len(b.p.decided) != len(b.m.decided) || len(b.p.sessions) != len(known) {
		b.t.Fatalf("%.300s: kept are %d asks, %d ids that were decided, %d sessions; want %d, %d, %d", what,
			len(b.p.waiting), len(b.p.decided), len(b.p.sessions), len(b.m.waiting), len(b.m.decided), len(known))
	}
	for p, w := range b.m.held {
		if holder, held := b.p.locks.Held(p); !held || holder != w {
			b.t.Fatalf("%.300s: %s is held by %d %t, want %d", what, p, holder, held, w)
		}
	}
}

func (b *both) ask(r op.Request) reply.Reply {
	b.t.Helper()
	what := fmt.Sprintf("Local of session %d, number %d, %s", r.Sess, r.Num, tellOps(r.Ops))
	told, w := b.p.Local(r), b.m.local(r)
	if tellReply(told) != tellReply(w) {
		b.t.Fatalf("%s:\n%.2000s\nwant\n%.2000s", what, tellReply(told), tellReply(w))
	}
	b.same(what)
	return told
}

func (b *both) prepare(id, sess int64, ops ...api.Op) (api.Errno, int) {
	b.t.Helper()
	what := fmt.Sprintf("Prepare(%d, %d, %s)", id, sess, tellOps(ops))
	before := b.m.state()
	e, at := b.p.Prepare(id, sess, ops...)
	if w, place := b.m.prepare(id, sess, ops); e != w || at != place {
		b.t.Fatalf("%s: %d at %d, want %d at %d", what, e, at, w, place)
	}
	b.same(what)
	if _, waits := b.m.waiting[id]; e != api.OK && !waits && b.m.state() != before {
		b.t.Fatalf("%s: refused, but something is changed", what)
	}
	return e, at
}

func (b *both) close(id, sess int64) (api.Errno, int) {
	b.t.Helper()
	what := fmt.Sprintf("Close(%d, %d)", id, sess)
	e, at := b.p.Close(id, sess)
	if w, place := b.m.close(id, sess); e != w || at != place {
		b.t.Fatalf("%s: %d at %d, want %d at %d", what, e, at, w, place)
	}
	b.same(what)
	return e, at
}

func (b *both) decide(id int64, commit bool) ([]api.Result, api.Errno) {
	b.t.Helper()
	what := fmt.Sprintf("Decide(%d, %t)", id, commit)
	l, e := b.p.Decide(id, commit)
	w, err := b.m.decide(id, commit)
	if e != err || tellResults(l) != tellResults(w) {
		b.t.Fatalf("%s: %d\n%.2000s\nwant %d\n%.2000s", what, e, tellResults(l), err, tellResults(w))
	}
	b.same(what)
	return l, e
}

// anyPath makes one of few, so that they meet.
func anyPath(luck *rand.Rand) string {
	return []string{"/a", "/b", "/a/b", "/a/c", "/a/s0000000000", "/a/s0000000001", "/a/b/c", "/b/a", "/a/s0000000000/x"}[luck.Intn(9)]
}

// anyOp makes an Op that Good mostly takes.
func anyOp(luck *rand.Rand) api.Op {
	switch p := anyPath(luck); luck.Intn(9) {
	case 0, 1:
		return create(p, "x", 0)
	case 2:
		return create(p, "", 1)
	case 3:
		return create([]string{"/a/s", "/b/s", "/a/b/s"}[luck.Intn(3)], "", 2+luck.Intn(2))
	case 4, 5:
		return remove(p, luck.Intn(3)-1)
	case 6:
		return set(p, "y", luck.Intn(3)-1)
	case 7:
		return check(p, luck.Intn(2)-1)
	default:
		return []api.Op{get(p), exists(p), children(p), create("none", "", 0)}[luck.Intn(4)]
	}
}

// anyOps makes some.
func anyOps(luck *rand.Rand) []api.Op {
	ops := []api.Op{anyOp(luck)}
	for luck.Intn(2) == 0 {
		ops = append(ops, anyOp(luck))
	}
	return ops
}

// anyWaiting tells an id that mostly is prepared.
func anyWaiting(luck *rand.Rand, b *both) int64 {
	if ids := b.p.Waiting(); len(ids) > 0 && luck.Intn(8) > 0 {
		return ids[luck.Intn(len(ids))]
	}
	return int64(luck.Intn(8))
}

// step makes one call, and counts how it ended.
func step(luck *rand.Rand, b *both, next int64, met map[string]int) {
	id, sess := next, int64(1+luck.Intn(4))
	if luck.Intn(12) == 0 {
		id, sess = anyWaiting(luck, b), int64(luck.Intn(3))
	}
	switch k := luck.Intn(20); {
	case k < 8:
		r := b.ask(op.Request{Sess: sess, Num: int64(luck.Intn(20)), Ops: anyOps(luck)})
		met[fmt.Sprintf("local %d %t", r.Err, r.At < 0)]++
	case k < 13:
		e, at := b.prepare(id, sess, anyOps(luck)...)
		met[fmt.Sprintf("prepare %d %t", e, at < 0)]++
	case k < 14:
		e, _ := b.close(id, int64(1+luck.Intn(60)/10))
		met[fmt.Sprintf("close %d", e)]++
	default:
		commit := luck.Intn(3) > 0
		l, e := b.decide(anyWaiting(luck, b), commit)
		met[fmt.Sprintf("decide %d %t %t", e, commit, len(l) > 0)]++
	}
}

// P18.1, P18.2: long runs, held against the model, call by call; what is prepared goes as it was foreseen, whatever came
// between.
func TestLongRuns(t *testing.T) {
	met := map[string]int{}
	for seed := range int64(700) {
		luck := rand.New(rand.NewSource(seed))
		b := pair(t, 1+luck.Intn(10))
		for i := range int64(120) {
			step(luck, b, 10+i, met)
		}
		for _, id := range b.p.Waiting() {
			b.decide(id, luck.Intn(2) == 0)
		}
		if b.p.Locks() != 0 || b.p.Wanted() != 0 || len(b.p.Waiting()) != 0 {
			t.Fatalf("seed %d: %s", seed, state(b.p))
		}
	}
	for _, w := range []string{
		"local 0 true", "local 1 true", "local 4 false", "local 5 false", "local 6 false", "local 7 false", "local 8 false", "local 9 false", "local 11 true", "local 12 true", "local 12 false",
		"prepare 0 true", "prepare 1 true", "prepare 4 false", "prepare 5 false", "prepare 6 false", "prepare 7 false", "prepare 8 false", "prepare 9 false", "prepare 11 true", "prepare 12 true", "prepare 12 false",
		"close 0", "close 1", "close 11", "close 12", "decide 0 true true", "decide 0 true false", "decide 0 false false", "decide 4 true false", "decide 4 false false",
	} {
		if met[w] < 20 {
			t.Errorf("%q was met %d times alone", w, met[w])
		}
	}
}
