package multi

import (
	"fmt"
	"slices"
	"strings"
	"testing"

	"aviary/api"
	"aviary/reply"
	"aviary/stat"
	"aviary/tree"
)

// most is the greatest number that is put behind a path, and the one at which counts stay.
const most = 2147483647

func create(p, data string, flags int) api.Op {
	return api.Op{Kind: api.Create, Path: p, Data: data, Flags: flags}
}

func remove(p string, version int) api.Op {
	return api.Op{Kind: api.Delete, Path: p, Version: version}
}

func set(p, data string, version int) api.Op {
	return api.Op{Kind: api.Set, Path: p, Data: data, Version: version}
}

func check(p string, version int) api.Op {
	return api.Op{Kind: api.Check, Path: p, Version: version}
}

func get(p string) api.Op      { return api.Op{Kind: api.Get, Path: p} }
func exists(p string) api.Op   { return api.Op{Kind: api.Exists, Path: p} }
func children(p string) api.Op { return api.Op{Kind: api.Children, Path: p} }

// fill makes a text of n bytes.
func fill(n int) string { return strings.Repeat("x", n) }

// names makes n Names that rise.
func names(n int) []string {
	var list []string
	for i := range n {
		list = append(list, fmt.Sprintf("n%05d", i))
	}
	return list
}

// leaf makes a node without Names, of which no field is like another.
func leaf() stat.Node {
	return stat.Node{Stat: api.Stat{Made: 11, Changed: 12, Version: 13, Kids: 14, Length: 5}, Data: "x\xff\x00é", Next: 16}
}

// with makes a leaf of an Owner's (0: nobody's), with these Names.
func with(owner int64, list ...string) stat.Node {
	n := leaf()
	n.Owner, n.Names, n.Count = owner, list, len(list)
	return n
}

// next makes a leaf with that Next.
func next(k int) stat.Node {
	n := leaf()
	n.Next = k
	return n
}

// tell tells every field of a result by its own name.
func tell(r api.Result) string {
	return fmt.Sprintf("Err %d Path %q Data %q Names %q Made %d Changed %d Version %d Kids %d Owner %d Length %d Count %d", r.Err, r.Path, r.Data,
		append([]string{}, r.Names...), r.Stat.Made, r.Stat.Changed, r.Stat.Version, r.Stat.Kids, r.Stat.Owner, r.Stat.Length, r.Stat.Count)
}

// tellNode tells every field of a node.
func tellNode(n stat.Node) string {
	return tell(api.Result{Data: n.Data, Names: n.Names, Stat: n.Stat}) + fmt.Sprint(" Next ", n.Next)
}

// tellReply tells every field of a reply, and of each of its Results.
func tellReply(r reply.Reply) string {
	s := fmt.Sprintf("Num %d Zxid %d Err %d At %d, %d Results", r.Num, r.Zxid, r.Err, r.At, len(r.Results))
	for _, one := range r.Results {
		s += "\n\t" + tell(one)
	}
	return s
}

// state tells all that a tree tells, but its room.
func state(x *tree.Tree) string {
	var b strings.Builder
	paths := x.Paths()
	fmt.Fprintf(&b, "%d nodes\n", x.Len())
	for _, p := range paths {
		n, ok := x.Node(p)
		fmt.Fprintf(&b, "%s %v %s\n", p, ok, tellNode(n))
	}
	return b.String()
}

// left tells how many nodes more a tree takes.
func left(x *tree.Tree) int {
	c := x.Copy()
	for k := 0; ; k++ {
		if e := c.Load(fmt.Sprintf("/left%d", k), stat.Node{}); e != api.OK {
			return k
		}
	}
}

// wantReply holds a reply against another one, field by field.
func wantReply(t testing.TB, what string, r, w reply.Reply) {
	t.Helper()
	if tellReply(r) != tellReply(w) {
		t.Errorf("%s:\n%.2000s\nwant\n%.2000s", what, tellReply(r), tellReply(w))
	}
}

// wantNode asks that a tree has just that node at a path.
func wantNode(t testing.TB, x *tree.Tree, p string, w stat.Node) {
	t.Helper()
	n, ok := x.Node(p)
	if !ok || tellNode(n) != tellNode(w) {
		t.Errorf("%s: %v, %.300s, want %.300s", p, ok, tellNode(n), tellNode(w))
	}
}

// wantPaths asks that a tree has just these nodes.
func wantPaths(t testing.TB, x *tree.Tree, w ...string) {
	t.Helper()
	if !slices.Equal(x.Paths(), w) {
		t.Errorf("paths %q, want %q", x.Paths(), w)
	}
}

// empty makes a tree without nodes.
func empty(t testing.TB, room int) *tree.Tree {
	t.Helper()
	x, e := tree.New(room)
	if e != api.OK {
		t.Fatalf("tree's New(%d): %d", room, e)
	}
	return x
}

// lay lays a node in.
func lay(t testing.TB, x *tree.Tree, p string, n stat.Node) {
	t.Helper()
	if e := x.Load(p, n); e != api.OK {
		t.Fatalf("Load(%s): %d", p, e)
	}
}

// busyNodes is how many a busy tree has.
const busyNodes = 13

// busy makes a tree with something of everything, and room for so many more.
func busy(t testing.TB, more int) *tree.Tree {
	t.Helper()
	x := empty(t, busyNodes+more)
	for p, n := range map[string]stat.Node{
		"/laid": with(0, "b", "d", "f"), "/un/der": leaf(), "/neg": with(-7), "/last": next(most + 1), "/have": next(5), "/have/s0000000005": leaf(),
	} {
		lay(t, x, p, n)
	}
	for i, c := range []struct {
		o    api.Op
		sess int64
	}{
		{create("/a", "xy", 0), 1}, {create("/a/k", "1", 0), 1}, {create("/a/e", "2", 1), 7}, {create("/a/s", "", 2), 1}, {create("/a/k/deep", "", 3), 9},
		{set("/a", "z", 0), 1}, {create("/e", "", 1), 7}, {create("/eph", "", 1), 7},
	} {
		if r := x.Do(c.o, c.sess, int64(5+i)); r.Err != api.OK {
			t.Fatalf("%v: %d", c.o, r.Err)
		}
	}
	if x.Len() != busyNodes {
		t.Fatalf("%d nodes", x.Len())
	}
	return x
}

// goesOn does one thing behind the other, and tells all that was answered, and what is there at last.
func goesOn(x *tree.Tree) string {
	var b strings.Builder
	for i, o := range []api.Op{
		create("/a/n", "", 2), create("/laid/n", "", 2), create("/have/n", "", 3), create("/g/x", "", 2), create("/g", "", 1), create("/a/k/n", "", 2), get("/a"), set("/a", "later", 1),
		check("/a/e", 0), remove("/a/e", -1), create("/a/n", "", 3), children("/a"), remove("/e", 0), create("/e", "", 0), create("/e/n", "", 2), remove("/un/der", 13),
	} {
		b.WriteString(tell(x.Do(o, 7, int64(100+i))) + "\n")
	}
	for i := range 30 {
		b.WriteString(tell(x.Do(create(fmt.Sprintf("/more%d", i), "", i&1), 9, 200)) + "\n")
	}
	return b.String() + state(x)
}
