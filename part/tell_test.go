package part

import (
	"fmt"
	"math"
	"strings"
	"testing"

	"aviary/api"
	"aviary/op"
	"aviary/reply"
	"aviary/tree"
)

func create(p, data string, flags int) api.Op {
	return api.Op{Kind: api.Create, Path: p, Data: data, Flags: flags}
}

func remove(p string, version int) api.Op {
	return api.Op{Kind: api.Delete, Path: p, Version: version}
}

func set(p, data string, version int) api.Op {
	return api.Op{Kind: api.Set, Path: p, Data: data, Version: version}
}

func check(p string, version int) api.Op {
	return api.Op{Kind: api.Check, Path: p, Version: version}
}

func get(p string) api.Op      { return api.Op{Kind: api.Get, Path: p} }
func exists(p string) api.Op   { return api.Op{Kind: api.Exists, Path: p} }
func children(p string) api.Op { return api.Op{Kind: api.Children, Path: p} }

// plain makes a Create of nothing but a path, number one that asks for a number, owned one of an ephemeral node.
func plain(p string) api.Op  { return create(p, "", 0) }
func number(p string) api.Op { return create(p, "", 2) }
func owned(p string) api.Op  { return create(p, "", 1) }

// gone makes a Delete of whatever version.
func gone(p string) api.Op { return remove(p, -1) }

// fill makes a text of n bytes.
func fill(n int) string { return strings.Repeat("x", n) }

// many makes n Ops of one.
func many(n int, o api.Op) []api.Op {
	var ops []api.Op
	for range n {
		ops = append(ops, o)
	}
	return ops
}

// sessions are those of which a state tells whether they are closed.
var sessions = []int64{math.MinInt64, -1, 0, 1, 2, 3, 4, 5, 6, 7, 77, 1 << 32, 1<<32 + 1, math.MaxInt64}

// notAbove are numbers that are below 1.
var notAbove = []int64{0, -1, -2, math.MinInt64, math.MinInt64 + 1, -1 << 32}

// tell tells every field of a result by its own name.
func tell(r api.Result) string {
	return fmt.Sprintf("Err %d Path %q Data %q Names %q Made %d Changed %d Version %d Kids %d Owner %d Length %d Count %d", r.Err, r.Path, r.Data,
		append([]string{}, r.Names...), r.Stat.Made, r.Stat.Changed, r.Stat.Version, r.Stat.Kids, r.Stat.Owner, r.Stat.Length, r.Stat.Count)
}

func tellResults(l []api.Result) string {
	s := fmt.Sprintf("%d Results", len(l))
	for _, r := range l {
		s += "\n\t" + tell(r)
	}
	return s
}

func tellReply(r reply.Reply) string {
	return fmt.Sprintf("Num %d Zxid %d Err %d At %d, %s", r.Num, r.Zxid, r.Err, r.At, tellResults(r.Results))
}

// tellOps tells as much of them as can be read.
func tellOps(ops []api.Op) string { return fmt.Sprintf("%.300s", fmt.Sprintf("%+v", ops)) }

// tellTree tells all that a tree tells, but its room.
func tellTree(x *tree.Tree) string {
	s := fmt.Sprintf("%d nodes\n", x.Len())
	for _, p := range x.Paths() {
		n, _ := x.Node(p)
		s += p + " " + tell(api.Result{Data: n.Data, Names: n.Names, Stat: n.Stat}) + fmt.Sprintf(" Next %d\n", n.Next)
	}
	return s
}

// state tells all that a part tells without a change.
func state(p *Part) string {
	s := fmt.Sprintf("Zxid %d Wanted %d Locks %d Waiting %v", p.Zxid(), p.Wanted(), p.Locks(), append([]int64{}, p.Waiting()...))
	for _, sess := range sessions {
		s += fmt.Sprintf(" %t", p.Closed(sess))
	}
	return s + "\n" + tellTree(p.Tree())
}

// locally does Ops by a Local, and holds its error and its place; the model holds the rest.
func (b *both) locally(e api.Errno, at int, sess int64, ops ...api.Op) reply.Reply {
	b.t.Helper()
	r := b.ask(request(sess, ops...))
	if r.Err != e || r.At != at {
		b.t.Errorf("Local of session %d, %s: %d at %d, want %d at %d", sess, tellOps(ops), r.Err, r.At, e, at)
	}
	return r
}

// prepares prepares Ops, and holds the error and its place.
func (b *both) prepares(e api.Errno, at int, id, sess int64, ops ...api.Op) *both {
	b.t.Helper()
	if err, place := b.prepare(id, sess, ops...); err != e || place != at {
		b.t.Errorf("Prepare(%d, %d, %s): %d at %d, want %d at %d", id, sess, tellOps(ops), err, place, e, at)
	}
	return b
}

// closes prepares a Close, and holds the error; its place is none.
func (b *both) closes(e api.Errno, id, sess int64) *both {
	b.t.Helper()
	if err, at := b.close(id, sess); err != e || at != -1 {
		b.t.Errorf("Close(%d, %d): %d at %d, want %d at -1", id, sess, err, at, e)
	}
	return b
}

// decides decides, and holds the paths of the Results.
func (b *both) decides(id int64, commit bool, paths ...string) *both {
	b.t.Helper()
	l, e := b.decide(id, commit)
	var told []string
	for _, r := range l {
		told = append(told, r.Path)
		if r.Err != api.OK {
			b.t.Errorf("Decide(%d, %t): a Result of error %d", id, commit, r.Err)
		}
	}
	if e != api.OK || strings.Join(told, " ") != strings.Join(paths, " ") {
		b.t.Errorf("Decide(%d, %t): %d %q, want %q", id, commit, e, told, paths)
	}
	return b
}

// counts holds the counts.
func (b *both) counts(zxid int64, locks, wanted int, waiting ...int64) *both {
	b.t.Helper()
	s := fmt.Sprint(b.p.Zxid(), b.p.Locks(), b.p.Wanted(), b.p.Waiting())
	if w := fmt.Sprint(zxid, locks, wanted, waiting); s != w {
		b.t.Errorf("Zxid, Locks, Wanted, Waiting: %s, want %s", s, w)
	}
	return b
}

// paths holds which nodes are there.
func (b *both) paths(w ...string) *both {
	b.t.Helper()
	if l := b.p.Tree().Paths(); strings.Join(l, " ") != strings.Join(w, " ") {
		b.t.Errorf("paths %q, want %q", l, w)
	}
	return b
}

// with makes a part, and does Ops of session 1, one by one.
func with(t testing.TB, room int, ops ...api.Op) *both {
	t.Helper()
	b := pair(t, room)
	for _, o := range ops {
		b.locally(api.OK, -1, 1, o)
	}
	return b
}

// request makes one.
func request(sess int64, ops ...api.Op) op.Request {
	return op.Request{Sess: sess, Num: 3, Ops: ops}
}
