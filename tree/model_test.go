package tree

import (
	"fmt"
	"maps"
	"slices"
	"strings"
	"testing"

	"aviary/api"
	"aviary/op"
	"aviary/stat"
)

// most is the greatest number that is put behind a path, and the one at which counts stay.
const most = 2147483647

func create(p, data string, flags int) api.Op {
	return api.Op{Kind: api.Create, Path: p, Data: data, Flags: flags}
}

func remove(p string, version int) api.Op {
	return api.Op{Kind: api.Delete, Path: p, Version: version}
}

func set(p, data string, version int) api.Op {
	return api.Op{Kind: api.Set, Path: p, Data: data, Version: version}
}

func check(p string, version int) api.Op {
	return api.Op{Kind: api.Check, Path: p, Version: version}
}

func get(p string) api.Op      { return api.Op{Kind: api.Get, Path: p} }
func exists(p string) api.Op   { return api.Op{Kind: api.Exists, Path: p} }
func children(p string) api.Op { return api.Op{Kind: api.Children, Path: p} }

// fill makes a text of n bytes.
func fill(n int) string { return strings.Repeat("x", n) }

// names makes n Names that rise.
func names(n int) []string {
	var list []string
	for i := range n {
		list = append(list, fmt.Sprintf("n%05d", i))
	}
	return list
}

// tell tells every field of a result by its own name.
func tell(r api.Result) string {
	return fmt.Sprintf("Err %d Path %q Data %q Names %q Made %d Changed %d Version %d Kids %d Owner %d Length %d Count %d", r.Err, r.Path, r.Data,
		append([]string{}, r.Names...), r.Stat.Made, r.Stat.Changed, r.Stat.Version, r.Stat.Kids, r.Stat.Owner, r.Stat.Length, r.Stat.Count)
}

// tellNode tells every field of a node.
func tellNode(n stat.Node) string {
	return tell(api.Result{Data: n.Data, Names: n.Names, Stat: n.Stat}) + fmt.Sprint(" Next ", n.Next)
}

// want holds a result against another one, field by field.
func want(t testing.TB, what string, r, w api.Result) {
	t.Helper()
	if tell(r) != tell(w) {
		t.Errorf("%s: %.300s, want %.300s", what, tell(r), tell(w))
	}
}

// wantNode asks that a tree has just that node at a path.
func wantNode(t testing.TB, x *Tree, p string, w stat.Node) {
	t.Helper()
	n, ok := x.Node(p)
	if !ok || tellNode(n) != tellNode(w) {
		t.Errorf("%s: %v, %.300s, want %.300s", p, ok, tellNode(n), tellNode(w))
	}
}

// empty makes a tree without nodes.
func empty(t testing.TB, room int) *Tree {
	t.Helper()
	x, e := New(room)
	if e != api.OK || x == nil {
		t.Fatalf("New(%d): %d", room, e)
	}
	return x
}

// owners are those whose paths a state tells.
var owners = []int64{-1 << 63, -7, -1, 0, 1, 2, 3, 7, 9, 1 << 32, 1<<32 + 1, 1<<63 - 1}

// state tells all that a tree tells, but its room.
func state(x *Tree) string {
	var b strings.Builder
	paths := x.Paths()
	fmt.Fprintf(&b, "%d %q\n", x.Len(), paths)
	for _, p := range paths {
		n, ok := x.Node(p)
		fmt.Fprintf(&b, "%s %v %s\n", p, ok, tellNode(n))
	}
	for _, o := range owners {
		fmt.Fprintf(&b, "%d: %q\n", o, append([]string{}, x.Of(o)...))
	}
	return b.String()
}

// left tells how many nodes more a tree takes.
func left(x *Tree) int {
	c := x.Copy()
	for k := 0; ; k++ {
		if e := c.Load(fmt.Sprintf("/left%d", k), stat.Node{}); e != api.OK {
			return k
		}
	}
}

// model is a tree by the chapter's words alone, with none of the program's layers but op's Good.
type model struct {
	room  int
	nodes map[string]stat.Node
}

func parent(p string) string { return p[:strings.LastIndex(p, "/")] }
func name(p string) string   { return p[strings.LastIndex(p, "/")+1:] }

// more counts on, as far as is counted.
func more(n int) int {
	if n >= most {
		return n
	}
	return n + 1
}

func (m *model) do(o api.Op, sess, zxid int64) api.Result {
	if e := op.Good(o); e != api.OK {
		return api.Result{Err: e}
	}
	if sess < 1 || zxid < 0 {
		return api.Result{Err: api.EARG}
	}
	if o.Kind == api.Create {
		return m.create(o, sess, zxid)
	}
	n, ok := m.nodes[o.Path]
	if !ok {
		return api.Result{Err: api.ENONE}
	}
	if o.Kind <= api.Check && o.Version != -1 && o.Version != n.Version {
		return api.Result{Err: api.EVERSION}
	}
	switch o.Kind {
	case api.Delete:
		if len(n.Names) > 0 {
			return api.Result{Err: api.EKIDS}
		}
		m.drop(o.Path)
		return api.Result{Path: o.Path}
	case api.Set:
		n.Data, n.Changed, n.Version, n.Length = o.Data, zxid, more(n.Version), len(o.Data)
		m.nodes[o.Path] = n
		return api.Result{Path: o.Path, Stat: n.Stat}
	case api.Check:
		return api.Result{Path: o.Path}
	case api.Get:
		return api.Result{Path: o.Path, Data: n.Data, Stat: n.Stat}
	case api.Exists:
		return api.Result{Path: o.Path, Stat: n.Stat}
	}
	return api.Result{Path: o.Path, Names: n.Names, Stat: n.Stat}
}

// drop takes a node away that is there, and its Name from its Parent.
func (m *model) drop(p string) {
	delete(m.nodes, p)
	if up, ok := m.nodes[parent(p)]; ok && slices.Contains(up.Names, name(p)) {
		up.Names = slices.DeleteFunc(slices.Clone(up.Names), func(s string) bool { return s == name(p) })
		up.Kids, up.Count = more(up.Kids), len(up.Names)
		m.nodes[parent(p)] = up
	}
}

func (m *model) create(o api.Op, sess, zxid int64) api.Result {
	p := o.Path
	up, there := m.nodes[parent(p)]
	if parent(p) != "" {
		if !there {
			return api.Result{Err: api.ENONE}
		}
		if up.Owner != 0 {
			return api.Result{Err: api.EEPH}
		}
		if o.Flags >= 2 {
			if up.Next < 0 || up.Next > most {
				return api.Result{Err: api.EARG}
			}
			p = fmt.Sprintf("%s%010d", p, up.Next)
		}
	}
	if _, ok := m.nodes[p]; ok {
		return api.Result{Err: api.EEXIST}
	}
	if len(m.nodes) >= m.room {
		return api.Result{Err: api.EFULL}
	}
	n := stat.Node{Stat: api.Stat{Made: zxid, Changed: zxid, Length: len(o.Data)}, Data: o.Data}
	if o.Flags == 1 || o.Flags == 3 {
		n.Owner = sess
	}
	m.nodes[p] = n
	if there && !slices.Contains(up.Names, name(p)) {
		up.Names = append(slices.Clone(up.Names), name(p))
		slices.Sort(up.Names)
		up.Kids, up.Count, up.Next = more(up.Kids), len(up.Names), more(up.Next)
		m.nodes[parent(p)] = up
	}
	return api.Result{Path: p, Stat: n.Stat}
}

// load lays a node that may be laid.
func (m *model) load(p string, n stat.Node) api.Errno {
	if _, ok := m.nodes[p]; ok {
		return api.EEXIST
	}
	if len(m.nodes) >= m.room {
		return api.EFULL
	}
	n.Names, n.Length, n.Count = slices.Clone(n.Names), len(n.Data), len(n.Names)
	m.nodes[p] = n
	return api.OK
}

// state tells what a tree's state should be.
func (m *model) state() string {
	var b strings.Builder
	paths := slices.Sorted(maps.Keys(m.nodes))
	fmt.Fprintf(&b, "%d %q\n", len(paths), paths)
	for _, p := range paths {
		fmt.Fprintf(&b, "%s %v %s\n", p, true, tellNode(m.nodes[p]))
	}
	for _, o := range owners {
		list := []string{}
		for _, p := range paths {
			if o > 0 && m.nodes[p].Owner == o {
				list = append(list, p)
			}
		}
		fmt.Fprintf(&b, "%d: %q\n", o, list)
	}
	return b.String()
}

// both is a tree and its model: each call is made of both, and all that can be told is held against each other.
type both struct {
	t testing.TB
	x *Tree
	m *model
}

func pair(t testing.TB, room int) *both {
	t.Helper()
	return &both{t, empty(t, room), &model{room, map[string]stat.Node{}}}
}

// do does an Op behind a Try of it.
func (b *both) do(o api.Op, sess, zxid int64) api.Result {
	b.t.Helper()
	before := state(b.x)
	try := b.x.Try(o, sess, zxid)
	if s := state(b.x); s != before {
		b.t.Fatalf("Try(%.100v): the tree is\n%s, and was\n%s", o, s, before)
	}
	r, w := b.x.Do(o, sess, zxid), b.m.do(o, sess, zxid)
	want(b.t, fmt.Sprintf("Do(%.100v)", o), r, w)
	want(b.t, fmt.Sprintf("Try(%.100v)", o), try, w)
	if s := state(b.x); s != b.m.state() {
		b.t.Fatalf("Do(%.100v): the tree is\n%s, want\n%s", o, s, b.m.state())
	}
	if r.Err != api.OK {
		want(b.t, "an error", r, api.Result{Err: r.Err})
		if state(b.x) != before {
			b.t.Errorf("Do(%.100v): refused with %d, but the tree is another", o, r.Err)
		}
	}
	return r
}

// load lays a node that may be laid.
func (b *both) load(p string, n stat.Node) api.Errno {
	b.t.Helper()
	before := state(b.x)
	e := b.x.Load(p, n)
	if w := b.m.load(p, n); e != w {
		b.t.Fatalf("Load(%s): %d, want %d", p, e, w)
	}
	if s := state(b.x); s != b.m.state() || e != api.OK && s != before {
		b.t.Fatalf("Load(%s): the tree is\n%s, want\n%s", p, s, b.m.state())
	}
	return e
}

// drop takes a node away, if it is there.
func (b *both) drop(p string) bool {
	b.t.Helper()
	ok := b.x.Drop(p)
	if _, there := b.m.nodes[p]; ok != there {
		b.t.Fatalf("Drop(%.60s): %v, want %v", p, ok, there)
	}
	if ok {
		b.m.drop(p)
	}
	if s := state(b.x); s != b.m.state() {
		b.t.Fatalf("Drop(%.60s): the tree is\n%s, want\n%s", p, s, b.m.state())
	}
	return ok
}

// has lays nodes in, one behind the other.
func (b *both) has(p string, n stat.Node) *both {
	b.t.Helper()
	if e := b.load(p, n); e != api.OK {
		b.t.Fatalf("Load(%s): %d", p, e)
	}
	return b
}

// copy makes another one of both.
func (b *both) copy() *both {
	return &both{b.t, b.x.Copy(), &model{b.m.room, maps.Clone(b.m.nodes)}}
}
