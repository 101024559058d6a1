package tree

import (
	"fmt"
	"math"
	"math/rand"
	"reflect"
	"slices"
	"strconv"
	"strings"
	"testing"
	"unsafe"

	"aviary/api"
	"aviary/op"
	"aviary/stat"
)

// whole makes a node, new each time, of which no field is like another; its Names are no nodes.
func whole() stat.Node {
	return stat.Node{Stat: api.Stat{Made: 11, Changed: 12, Version: 13, Kids: 14, Length: 5, Count: 3},
		Data: "x\xff\x00é", Next: 16, Names: []string{"b", "d", "f"}}
}

// leaf makes one without Names.
func leaf() stat.Node {
	n := whole()
	n.Names, n.Count = nil, 0
	return n
}

// owned makes a leaf of a session's.
func owned(sess int64) stat.Node {
	n := leaf()
	n.Owner = sess
	return n
}

// next makes a leaf with that Next.
func next(k int) stat.Node {
	n := leaf()
	n.Next = k
	return n
}

// P11.1: the chapter's example.
func TestExample(t *testing.T) {
	r := empty(t, 1).Do(create("/a", "", 0), 1, 5)
	if r.Err != api.OK || r.Path != "/a" || r.Made != 5 {
		t.Errorf("%+v", r)
	}
}

// The chapter's Ways: a tree's own node has stat's Node embedded, whose methods are promoted.
func TestEmbedded(t *testing.T) {
	at, ok := reflect.TypeOf(node{}).FieldByName("Node")
	if !ok || !at.Anonymous || at.Type != reflect.TypeOf(stat.Node{}) {
		t.Errorf("stat's Node is not embedded")
	}
	var n interface {
		Add(string) bool
		Remove(string) bool
		Write(int64, string)
		Ephemeral() bool
	} = &node{stat.New(1, 2, "a")}
	n.Write(3, "bc")
	if !n.Add("x") || !n.Add("y") || !n.Remove("x") || !n.Ephemeral() {
		t.Errorf("%+v", n)
	}
	w := stat.Node{Stat: api.Stat{Made: 1, Changed: 3, Version: 1, Kids: 3, Owner: 2, Length: 2, Count: 1}, Data: "bc", Next: 2, Names: []string{"y"}}
	if got := n.(*node).Node; tellNode(got) != tellNode(w) {
		t.Errorf("%s", tellNode(got))
	}
}

// P11.1: New: the rooms that may be, and that they are the rooms.
func TestNew(t *testing.T) {
	for _, room := range []int{1, 2, 3, 499, 500} {
		x := empty(t, room)
		if x.Len() != 0 || len(x.Paths()) != 0 || len(x.Of(1)) != 0 {
			t.Errorf("New(%d) is not empty", room)
		}
		for i := range room {
			if r := x.Do(create("/n"+strconv.Itoa(i), "", i&1), 1, 1); r.Err != api.OK || x.Len() != i+1 {
				t.Fatalf("room of %d: number %d: %d", room, i, r.Err)
			}
		}
		if r := x.Do(create("/more", "", 0), 1, 1); r.Err != api.EFULL || x.Len() != room {
			t.Errorf("room of %d: one more: %d, Len %d", room, r.Err, x.Len())
		}
		if e := x.Load("/more", stat.Node{}); e != api.EFULL {
			t.Errorf("room of %d: one more by Load: %d", room, e)
		}
	}
}

// P11.1: New: the rooms that may not be.
func TestNewRefuses(t *testing.T) {
	for _, room := range []int{0, -1, -2, -500, 501, 502, 1 << 16, 1<<32 + 1, -1<<32 + 1, math.MinInt, math.MaxInt} {
		if x, e := New(room); x != nil || e != api.EARG {
			t.Errorf("New(%d): %v, %d", room, x, e)
		}
	}
}

// busyLeft is how many nodes more a busy tree takes.
const busyLeft = 11

// busy makes a tree with something of everything, and room for more.
func busy(t testing.TB) *both {
	b := pair(t, 20).has("/laid", whole()).has("/un/der", leaf()).has("/neg", owned(-7))
	b.do(create("/a", "xy", 0), 1, 5)
	b.do(create("/a/k", "1", 0), 1, 6)
	b.do(create("/a/e", "2", 1), 7, 7)
	b.do(create("/a/s", "", 2), 1, 8)
	b.do(create("/a/k/deep", "", 3), 9, 9)
	b.do(set("/a", "z", 0), 1, 10)
	b.do(create("/e", "", 1), 7, 11)
	return b
}

// P11.1: an Op that op's Good refuses: its error comes first, whatever sess and zxid are.
func TestDoAsksGoodFirst(t *testing.T) {
	b := busy(t)
	long := fill(1001)
	for _, o := range []api.Op{
		{}, {Kind: 0, Path: "/a"}, {Kind: 8, Path: "/a"}, {Kind: -1, Path: "/a"}, {Kind: math.MaxInt, Path: "/a"}, {Kind: math.MinInt, Path: "/a"},
		create("", "", 0), create("/", "", 0), create("q", "", 0), create("/q/", "", 0), create("//q", "", 0), create("/.", "", 0), create("/a/..", "", 0),
		create("/"+fill(41), "", 0), create("/q q", "", 0), create(strings.Repeat("/q", 9), "", 0), get("/"), exists("a"), children("/a/"), remove("/a//k", -1),
		set("/a\x00", "", -1), check("/é", -1), create("/"+fill(1<<16), "", 0),
		remove("/a/e", -2), set("/a", "", -2), check("/a", math.MinInt), create("/q", "", 4), create("/q", "", -1), create("/q", "", math.MinInt),
		create("/q", long, 0), create("/a/q", long, 2), set("/a", long, 1), set("/nowhere", long, 0), create("/nowhere/q", long, 0),
		{Kind: api.Delete, Path: "/a/e", Data: "x"}, {Kind: api.Check, Path: "/a", Data: "x"}, {Kind: api.Get, Path: "/a", Data: "x"},
		{Kind: api.Exists, Path: "/a", Data: "x"}, {Kind: api.Children, Path: "/a", Data: "x"}, {Kind: api.Create, Path: "/q", Version: 1},
		{Kind: api.Create, Path: "/q", Version: -1}, {Kind: api.Get, Path: "/a", Version: 1}, {Kind: api.Exists, Path: "/a", Version: -1},
		{Kind: api.Children, Path: "/a", Version: 1}, {Kind: api.Delete, Path: "/a/e", Flags: 1}, {Kind: api.Set, Path: "/a", Flags: 2},
		{Kind: api.Check, Path: "/a", Version: -1, Flags: 1}, {Kind: api.Get, Path: "/a", Flags: 3}, {Kind: api.Get, Path: "/a", Data: long},
		create("/q", "", 2), create("/q", "", 3), create("/a/"+fill(31), "", 2), create("/a/"+fill(40), "", 3),
	} {
		e := op.Good(o)
		if e == api.OK {
			t.Fatalf("op's Good takes %.100v", o)
		}
		for _, sess := range []int64{1, 0, -1, math.MinInt64, math.MaxInt64} {
			for _, zxid := range []int64{0, 20, -1, math.MinInt64} {
				want(t, fmt.Sprintf("%.100v", o), b.do(o, sess, zxid), api.Result{Err: e})
			}
		}
	}
}

// asks are Ops that a busy tree answers with these errors, each Kind with all that it can have but EFULL and Number's EARG.
var asks = []struct {
	o api.Op
	e api.Errno
}{
	{create("/q", "d", 0), api.OK}, {create("/q", "d", 1), api.OK}, {create("/a/q", "", 0), api.OK}, {create("/a/q", "", 1), api.OK}, {create("/a/q", "", 2), api.OK},
	{create("/a/q", "", 3), api.OK}, {create("/a/k/q", "", 0), api.OK}, {create("/laid/b", "", 0), api.OK}, {create("/laid/a", "", 2), api.OK}, {create("/un", "", 0), api.OK},
	{create("/q/r", "", 0), api.ENONE}, {create("/q/r", "", 2), api.ENONE}, {create("/un/der", "", 0), api.ENONE}, {create("/un/q", "", 3), api.ENONE},
	{create("/e/q", "", 0), api.EEPH}, {create("/a/e/q", "", 2), api.EEPH}, {create("/neg/q", "", 1), api.EEPH},
	{create("/a", "", 0), api.EEXIST}, {create("/e", "", 1), api.EEXIST}, {create("/a/k", "", 0), api.EEXIST}, {create("/a/s0000000002", "", 0), api.EEXIST},
	{remove("/a/e", -1), api.OK}, {remove("/a/e", 0), api.OK}, {remove("/un/der", 13), api.OK}, {remove("/e", -1), api.OK}, {remove("/neg", -1), api.OK},
	{remove("/q", -1), api.ENONE}, {remove("/a/q", 0), api.ENONE}, {remove("/laid/b", -1), api.ENONE}, {remove("/a/e", 1), api.EVERSION}, {remove("/un/der", 0), api.EVERSION},
	{remove("/a", 0), api.EVERSION}, {remove("/a", -1), api.EKIDS}, {remove("/a", 1), api.EKIDS}, {remove("/laid", 13), api.EKIDS},
	{set("/a", "new", -1), api.OK}, {set("/a", "", 1), api.OK}, {set("/laid", "q", 13), api.OK}, {set("/e", "q", 0), api.OK},
	{set("/q", "", -1), api.ENONE}, {set("/a/q", "x", 0), api.ENONE}, {set("/a", "new", 0), api.EVERSION}, {set("/a", "new", 2), api.EVERSION}, {set("/laid", "", 0), api.EVERSION},
	{check("/a", -1), api.OK}, {check("/a", 1), api.OK}, {check("/laid", 13), api.OK}, {check("/a/k", 0), api.OK},
	{check("/q", -1), api.ENONE}, {check("/laid/b", 0), api.ENONE}, {check("/a", 0), api.EVERSION}, {check("/laid", math.MaxInt), api.EVERSION},
	{get("/a"), api.OK}, {get("/laid"), api.OK}, {get("/a/e"), api.OK}, {get("/neg"), api.OK}, {get("/q"), api.ENONE}, {get("/laid/b"), api.ENONE},
	{exists("/a"), api.OK}, {exists("/laid"), api.OK}, {exists("/un/der"), api.OK}, {exists("/q"), api.ENONE}, {exists("/un"), api.ENONE},
	{children("/a"), api.OK}, {children("/laid"), api.OK}, {children("/a/e"), api.OK}, {children("/q"), api.ENONE}, {children("/a/q"), api.ENONE},
}

// P11.1: sess below 1 and zxid below 0 are EARG, ahead of each Kind's own errors.
func TestDoAsksSessAndZxid(t *testing.T) {
	b := busy(t)
	for _, c := range asks {
		for _, by := range [][2]int64{{0, 0}, {0, 20}, {-1, 20}, {math.MinInt64, 20}, {1, -1}, {1, math.MinInt64}, {0, -1}, {-1, -1}, {-1 << 32, 1}, {1, -1 << 32}} {
			want(t, fmt.Sprintf("%v by %d", c.o, by), b.do(c.o, by[0], by[1]), api.Result{Err: api.EARG})
		}
		for _, by := range [][2]int64{{1, 0}, {1, 1}, {math.MaxInt64, math.MaxInt64}, {1 << 32, 1 << 32}} {
			if r := b.copy().do(c.o, by[0], by[1]); r.Err != c.e {
				t.Errorf("%v by %d: %d, want %d", c.o, by, r.Err, c.e)
			}
		}
	}
}

// P11.2: Try: each Kind, with and without an error: what Do would answer, and the tree as it was, node by node.
func TestTry(t *testing.T) {
	b := busy(t)
	before := state(b.x)
	for _, c := range asks {
		first, second := b.x.Try(c.o, 3, 20), b.x.Try(c.o, 3, 20)
		if first.Err != c.e || tell(first) != tell(second) {
			t.Errorf("Try(%v): %s, and again %s", c.o, tell(first), tell(second))
		}
		want(t, fmt.Sprintf("Try(%v)", c.o), first, b.x.Copy().Do(c.o, 3, 20))
		if s := state(b.x); s != before || left(b.x) != busyLeft {
			t.Fatalf("Try(%v): room for %d, and\n%s, not\n%s", c.o, left(b.x), s, before)
		}
		b.copy().do(c.o, 3, 20)
	}
}

// P11.1: Create of one name, and of several, down to the greatest depth: all that is answered, and all that is there.
func TestCreate(t *testing.T) {
	for _, flags := range []int{0, 1} {
		for _, data := range []string{"", "a", "xy\x00\xffé", fill(1000)} {
			for _, by := range [][2]int64{{1, 0}, {7, 5}, {1<<32 + 1, 1 << 32}, {math.MaxInt64, math.MaxInt64}} {
				b := pair(t, 9)
				owner := by[0] * int64(flags)
				w := stat.Node{Stat: api.Stat{Made: by[1], Changed: by[1], Owner: owner, Length: len(data)}, Data: data}
				for depth := 1; depth <= 8; depth++ {
					p := strings.Repeat("/q", depth)
					r := b.do(create(p, data, flags), by[0], by[1])
					want(t, "Create "+p, r, api.Result{Path: p, Stat: api.Stat{Made: by[1], Changed: by[1], Owner: owner, Length: len(data)}})
					wantNode(t, b.x, p, w)
					if flags == 1 {
						b.do(remove(p, 0), 1, 1)
						b.do(create(p, data, 0), 1, 1) // for nothing is under an ephemeral one
					}
				}
			}
		}
	}
}

// P11.1: what a Create makes of its Parent: Names, Kids, Count and Next, and nothing else; nothing of others.
func TestCreateParent(t *testing.T) {
	b := pair(t, 20).has("/a", whole()).has("/b", whole())
	w := whole()
	for i, c := range []struct {
		o    api.Op
		made string
		then string
	}{
		{create("/a/a", "", 0), "/a/a", "a b d f"}, {create("/a/z", "", 1), "/a/z", "a b d f z"}, {create("/a/c", "", 2), "/a/c0000000018", "a b c0000000018 d f z"},
		{create("/a/c", "", 3), "/a/c0000000019", "a b c0000000018 c0000000019 d f z"}, {create("/a/Z", "", 0), "/a/Z", "Z a b c0000000018 c0000000019 d f z"},
	} {
		if r := b.do(c.o, 3, 99); r.Path != c.made {
			t.Errorf("number %d: %s", i, tell(r))
		}
		w.Names = strings.Fields(c.then)
		w.Kids, w.Count, w.Next = w.Kids+1, len(w.Names), w.Next+1
		wantNode(t, b.x, "/a", w)
		wantNode(t, b.x, "/b", whole())
	}
	b.do(create("/a/a/x", "", 0), 1, 100)
	wantNode(t, b.x, "/a", w)
}

// P11.1: a Parent that was laid with the Name already: the node is made, and the Parent stays as it was (Add).
func TestCreateWhereTheNameIs(t *testing.T) {
	w := whole()
	w.Names = []string{"b", "d", "s0000000016"}
	b := pair(t, 20).has("/a", w)
	for _, c := range []struct {
		o    api.Op
		made string
	}{{create("/a/b", "", 0), "/a/b"}, {create("/a/d", "", 1), "/a/d"}, {create("/a/s", "", 2), "/a/s0000000016"}} {
		if r := b.do(c.o, 1, 1); r.Err != api.OK || r.Path != c.made {
			t.Errorf("%s", tell(r))
		}
		w.Length, w.Count = 5, 3
		wantNode(t, b.x, "/a", w)
	}
	if r := b.do(create("/a/s", "", 2), 1, 1); r.Err != api.EEXIST {
		t.Errorf("the same number: %s", tell(r))
	}
}

// P11.1: a Parent with MaxNodes Names takes one more: its nodes are counted, not its Names.
func TestCreateBeyondNames(t *testing.T) {
	w := whole()
	w.Names = names(500)
	b := pair(t, 3).has("/a", w)
	if r := b.do(create("/a/z", "", 0), 1, 1); r.Err != api.OK {
		t.Errorf("%s", tell(r))
	}
	if n, _ := b.x.Node("/a"); n.Count != 501 || n.Names[500] != "z" {
		t.Errorf("%d Names", n.Count)
	}
	c := b.copy()
	if state(c.x) != state(b.x) {
		t.Errorf("Copy of more than MaxNodes Names")
	}
	c.do(create("/a/y", "", 2), 1, 1)
}

// P11.1: numbers by Flags 2 and 3: Next, in ten digits, whatever the name ends with.
func TestSequential(t *testing.T) {
	for at, digits := range map[int]string{0: "0000000000", 1: "0000000001", 9: "0000000009", 10: "0000000010", 1234567890: "1234567890", most - 1: "2147483646", most: "2147483647"} {
		for _, flags := range []int{2, 3} {
			for _, p := range []string{"/a/s", "/a/7", "/a/-", "/a/" + fill(30)} {
				b := pair(t, 9).has("/a", next(at))
				w := api.Result{Path: p + digits, Stat: api.Stat{Made: 5, Changed: 5, Length: 2}}
				if flags == 3 {
					w.Owner = 9
				}
				want(t, p, b.do(create(p, "xy", flags), 9, 5), w)
				n, _ := b.x.Node("/a")
				if n.Next != min(at+1, most) || n.Kids != 15 || !slices.Equal(n.Names, []string{p[3:] + digits}) {
					t.Errorf("%s: the Parent is %s", p, tellNode(n))
				}
			}
		}
	}
}

// P11.1: numbers that are none: Next below 0, and above 2147483647.
func TestSequentialNoNumber(t *testing.T) {
	for _, at := range []int{-1, -2, math.MinInt, -1 << 32, -1<<32 + 5, most + 1, most + 2, 1 << 32, 1<<32 + 5, math.MaxInt} {
		for _, flags := range []int{2, 3} {
			b := pair(t, 9).has("/a", next(at))
			want(t, strconv.Itoa(at), b.do(create("/a/s", "", flags), 1, 1), api.Result{Err: api.EARG})
			// Without a number the same Parent takes it.
			if r := b.do(create("/a/s", "", flags-2), 1, 1); r.Err != api.OK {
				t.Errorf("Next %d: %s", at, tell(r))
			}
		}
	}
}

// P11.1: numbers go on, where nodes were deleted and where others were made; each Parent has its own.
func TestSequentialGoesOn(t *testing.T) {
	b := pair(t, 20)
	b.do(create("/a", "", 0), 1, 1)
	b.do(create("/b", "", 0), 1, 1)
	for i, c := range []struct {
		o    api.Op
		path string
	}{
		{create("/a/s", "", 2), "/a/s0000000000"}, {create("/a/s", "", 2), "/a/s0000000001"}, {create("/a/t", "", 3), "/a/t0000000002"},
		{remove("/a/s0000000001", -1), "/a/s0000000001"}, {create("/a/s", "", 2), "/a/s0000000003"}, {create("/a/plain", "", 0), "/a/plain"},
		{create("/a/s", "", 2), "/a/s0000000005"}, {remove("/a/plain", 0), "/a/plain"}, {remove("/a/s0000000005", 0), "/a/s0000000005"},
		{remove("/a/s0000000000", 0), "/a/s0000000000"}, {create("/a/s", "", 2), "/a/s0000000006"}, {create("/b/s", "", 2), "/b/s0000000000"},
		{create("/a/s", "", 0), "/a/s"}, {create("/a/s", "", 2), "/a/s0000000008"}, {create("/a/s/s", "", 2), "/a/s/s0000000000"},
		{set("/a", "x", 0), "/a"}, {create("/a/s", "", 3), "/a/s0000000009"}, {create("/a/s00000000", "", 2), "/a/s00000000" + "0000000010"},
	} {
		if r := b.do(c.o, 1, int64(i)); r.Err != api.OK || r.Path != c.path {
			t.Errorf("number %d: %s", i, tell(r))
		}
	}
	n, _ := b.x.Node("/a")
	if n.Next != 11 || n.Kids != 15 || n.Count != 7 {
		t.Errorf("%s", tellNode(n))
	}
}

// P11.1: a number that was refused is not used up; one that is there already is EEXIST, and stays so.
func TestSequentialIsThere(t *testing.T) {
	b := pair(t, 20).has("/a", next(5)).has("/a/s0000000005", leaf())
	for range 2 {
		if r := b.do(create("/a/s", "", 2), 1, 1); r.Err != api.EEXIST {
			t.Errorf("%s", tell(r))
		}
	}
	if r := b.do(create("/a/t", "", 2), 1, 1); r.Path != "/a/t0000000005" {
		t.Errorf("%s", tell(r))
	}
	if r := b.do(create("/a/s", "", 2), 1, 1); r.Path != "/a/s0000000006" {
		t.Errorf("%s", tell(r))
	}
	// The greatest number stays: it is there from then on.
	b = pair(t, 20).has("/a", next(most))
	for i, e := range []api.Errno{api.OK, api.EEXIST, api.EEXIST} {
		if r := b.do(create("/a/s", "", 2), 1, 1); r.Err != e {
			t.Errorf("number %d: %s", i, tell(r))
		}
	}
	b.do(remove("/a/s2147483647", -1), 1, 1)
	if r := b.do(create("/a/s", "", 3), 1, 1); r.Path != "/a/s2147483647" {
		t.Errorf("%s", tell(r))
	}
}

// P11.1: a Create's errors, each by itself and each two that can be at once, with and without a number.
func TestCreateErrors(t *testing.T) {
	all := []int{0, 1, 2, 3}
	plain, numbered := []int{0, 1}, []int{2, 3}
	noNumber := func(n stat.Node) stat.Node { n.Next = most + 1; return n }
	for what, c := range map[string]struct {
		room  int
		nodes map[string]stat.Node
		flags []int
		e     api.Errno
	}{
		"none of them":                {9, map[string]stat.Node{"/p": next(0)}, all, api.OK},
		"ENONE":                       {9, nil, all, api.ENONE},
		"ENONE, others there":         {9, map[string]stat.Node{"/pp": leaf(), "/p/cc": leaf(), "/q/p": leaf()}, all, api.ENONE},
		"ENONE ahead of EEXIST":       {9, map[string]stat.Node{"/p/c": leaf(), "/p/c0000000000": leaf()}, all, api.ENONE},
		"ENONE ahead of EFULL":        {1, map[string]stat.Node{"/q": leaf()}, all, api.ENONE},
		"ENONE ahead of both":         {1, map[string]stat.Node{"/p/c": leaf()}, all, api.ENONE},
		"EEPH":                        {9, map[string]stat.Node{"/p": owned(7)}, all, api.EEPH},
		"EEPH, its own session's":     {9, map[string]stat.Node{"/p": owned(1)}, all, api.EEPH},
		"EEPH, an Owner below 0":      {9, map[string]stat.Node{"/p": owned(-7)}, all, api.EEPH},
		"EEPH ahead of EARG":          {9, map[string]stat.Node{"/p": noNumber(owned(7))}, all, api.EEPH},
		"EEPH ahead of EEXIST":        {9, map[string]stat.Node{"/p": owned(7), "/p/c": leaf(), "/p/c0000000016": leaf()}, all, api.EEPH},
		"EEPH ahead of EFULL":         {1, map[string]stat.Node{"/p": owned(7)}, all, api.EEPH},
		"EEPH ahead of all":           {3, map[string]stat.Node{"/p": noNumber(owned(7)), "/p/c": leaf(), "/p/c2147483648": leaf()}, all, api.EEPH},
		"EARG":                        {9, map[string]stat.Node{"/p": noNumber(leaf())}, numbered, api.EARG},
		"EARG ahead of EEXIST":        {9, map[string]stat.Node{"/p": noNumber(leaf()), "/p/c": leaf(), "/p/c2147483648": leaf(), "/p/c2147483647": leaf()}, numbered, api.EARG},
		"EARG ahead of EFULL":         {1, map[string]stat.Node{"/p": noNumber(leaf())}, numbered, api.EARG},
		"EARG ahead of both":          {3, map[string]stat.Node{"/p": noNumber(leaf()), "/p/c": leaf(), "/p/c2147483648": leaf()}, numbered, api.EARG},
		"no number is asked for":      {9, map[string]stat.Node{"/p": noNumber(leaf())}, plain, api.OK},
		"EEXIST":                      {9, map[string]stat.Node{"/p": leaf(), "/p/c": leaf()}, plain, api.EEXIST},
		"EEXIST, with a number":       {9, map[string]stat.Node{"/p": leaf(), "/p/c0000000016": leaf()}, numbered, api.EEXIST},
		"EEXIST ahead of EFULL":       {2, map[string]stat.Node{"/p": leaf(), "/p/c": leaf()}, plain, api.EEXIST},
		"EEXIST ahead, with a number": {2, map[string]stat.Node{"/p": leaf(), "/p/c0000000016": leaf()}, numbered, api.EEXIST},
		"the path without its number": {9, map[string]stat.Node{"/p": leaf(), "/p/c": leaf()}, numbered, api.OK},
		"the path with a number":      {9, map[string]stat.Node{"/p": leaf(), "/p/c0000000016": leaf()}, plain, api.OK},
		"EFULL":                       {1, map[string]stat.Node{"/p": leaf()}, all, api.EFULL},
		"EFULL, of other nodes":       {3, map[string]stat.Node{"/p": leaf(), "/q": leaf(), "/p/d": leaf()}, all, api.EFULL},
		"room for one more":           {4, map[string]stat.Node{"/p": leaf(), "/q": leaf(), "/p/d": leaf()}, all, api.OK},
	} {
		for _, flags := range c.flags {
			b := pair(t, c.room)
			for p, n := range c.nodes {
				b.has(p, n)
			}
			if r := b.do(create("/p/c", "x", flags), 1, 1); r.Err != c.e {
				t.Errorf("%s, Flags %d: %s", what, flags, tell(r))
			}
		}
	}
}

// P11.1: a Create of one name asks no Parent.
func TestCreateOfOneName(t *testing.T) {
	for what, c := range map[string]struct {
		room int
		has  string
		e    api.Errno
	}{"an empty tree": {1, "", api.OK}, "what is under it": {2, "/c/d", api.OK}, "EEXIST": {2, "/c", api.EEXIST}, "EEXIST ahead of EFULL": {1, "/c", api.EEXIST}, "EFULL": {1, "/d", api.EFULL}} {
		for _, flags := range []int{0, 1} {
			b := pair(t, c.room)
			if c.has != "" {
				b.has(c.has, owned(7))
			}
			if r := b.do(create("/c", "x", flags), 1, 1); r.Err != c.e {
				t.Errorf("%s: %s", what, tell(r))
			}
		}
	}
}

// P11.1: Delete: Versions of -1, of the node's and of others; which error comes first.
func TestDelete(t *testing.T) {
	for version, w := range map[int]struct{ leaf, named api.Errno }{
		-1: {api.OK, api.EKIDS}, 13: {api.OK, api.EKIDS}, 0: {api.EVERSION, api.EVERSION}, 12: {api.EVERSION, api.EVERSION}, 14: {api.EVERSION, api.EVERSION},
		13 + 1<<32: {api.EVERSION, api.EVERSION}, math.MaxInt: {api.EVERSION, api.EVERSION},
	} {
		for _, p := range []string{"/a", "/a/b", "/a/b/c/d/e/f/g/h"} {
			b := pair(t, 9).has(p, leaf())
			r := b.do(remove(p, version), 1, 1)
			if w.leaf == api.OK {
				want(t, "Delete", r, api.Result{Path: p})
			} else {
				want(t, "Delete", r, api.Result{Err: w.leaf})
			}
			if _, there := b.x.Node(p); there == (w.leaf == api.OK) {
				t.Errorf("Version %d: %s is there: %v", version, p, there)
			}
			want(t, "Names", pair(t, 9).has(p, whole()).do(remove(p, version), 1, 1), api.Result{Err: w.named})
		}
		want(t, "none", pair(t, 9).has("/b", whole()).do(remove("/a", version), 1, 1), api.Result{Err: api.ENONE})
		want(t, "a Name alone", pair(t, 9).has("/a", whole()).do(remove("/a/b", version), 1, 1), api.Result{Err: api.ENONE})
	}
	// By its Names alone: what is under it is not asked, nor its Count.
	n := leaf()
	n.Count = 5
	b := pair(t, 9).has("/a", n).has("/a/b", leaf())
	want(t, "without Names", b.do(remove("/a", -1), 1, 1), api.Result{Path: "/a"})
	// A Version below 0 that was laid: -1 is any, as ever.
	n = leaf()
	n.Version = -1
	want(t, "Version -1", pair(t, 9).has("/a", n).do(remove("/a", -1), 1, 1), api.Result{Path: "/a"})
	want(t, "Version -1", pair(t, 9).has("/a", n).do(remove("/a", 0), 1, 1), api.Result{Err: api.EVERSION})
}

// P11.1: what a Delete makes of its Parent: Names, Kids and Count, and nothing else.
func TestDeleteParent(t *testing.T) {
	b := pair(t, 9).has("/a", whole()).has("/a/b", leaf()).has("/a/d", leaf()).has("/a/f", leaf()).has("/a/x", leaf()).has("/b", whole())
	for i, left := range []struct{ gone, names string }{{"/a/d", "b f"}, {"/a/b", "f"}, {"/a/f", ""}} {
		want(t, "Delete", b.do(remove(left.gone, -1), 1, 99), api.Result{Path: left.gone})
		w := whole()
		w.Names = strings.Fields(left.names)
		w.Kids, w.Count = 15+i, len(w.Names)
		wantNode(t, b.x, "/a", w)
		wantNode(t, b.x, "/b", whole())
	}
	// One that its Parent does not know: the Parent stays as it was.
	before, _ := b.x.Node("/a")
	want(t, "Delete", b.do(remove("/a/x", 13), 1, 99), api.Result{Path: "/a/x"})
	wantNode(t, b.x, "/a", before)
	// At last the Parent itself; then it can be made again, as a new one.
	want(t, "Delete", b.do(remove("/a", -1), 1, 99), api.Result{Path: "/a"})
	b.do(create("/a", "new", 0), 1, 100)
	wantNode(t, b.x, "/a", stat.Node{Stat: api.Stat{Made: 100, Changed: 100, Length: 3}, Data: "new"})
}

// P11.1: Delete of a node without its Parent.
func TestDeleteWithoutParent(t *testing.T) {
	b := pair(t, 9).has("/x/y/z", leaf()).has("/x", whole())
	want(t, "Delete", b.do(remove("/x/y/z", -1), 1, 1), api.Result{Path: "/x/y/z"})
	wantNode(t, b.x, "/x", whole())
	if b.x.Len() != 1 {
		t.Errorf("%d nodes", b.x.Len())
	}
}

// P11.1: Delete makes room.
func TestDeleteMakesRoom(t *testing.T) {
	b := pair(t, 2)
	b.do(create("/a", "", 0), 1, 1)
	b.do(create("/a/b", "", 1), 1, 1)
	for i := range 5 {
		if r := b.do(create("/c", "", 0), 1, 1); r.Err != api.EFULL {
			t.Errorf("%s", tell(r))
		}
		b.do(remove("/a/b", -1), 1, 1)
		if r := b.do(create("/a/b", "", 1), 1, int64(i)); r.Err != api.OK {
			t.Errorf("%s", tell(r))
		}
	}
}

// P11.1: Set: its errors, and what is answered and there behind it.
func TestSet(t *testing.T) {
	for _, data := range []string{"", "z", whole().Data, "\x00\xff", fill(1000)} {
		for _, zxid := range []int64{0, 12, 99, math.MaxInt64} {
			for _, version := range []int{-1, 13} {
				b := pair(t, 9).has("/a", whole()).has("/a/b", owned(7)).has("/b", whole())
				w := whole()
				w.Data, w.Changed, w.Version, w.Length = data, zxid, 14, len(data)
				want(t, "Set", b.do(set("/a", data, version), 1, zxid), api.Result{Path: "/a", Stat: w.Stat})
				wantNode(t, b.x, "/a", w)
				wantNode(t, b.x, "/b", whole())
				// Under it: its Parent stays as it is, its Owner too, whoever asks.
				k := owned(7)
				k.Data, k.Changed, k.Version, k.Length = data, zxid, 14, len(data)
				want(t, "Set", b.do(set("/a/b", data, version), 1, zxid), api.Result{Path: "/a/b", Stat: k.Stat})
				wantNode(t, b.x, "/a", w)
			}
		}
		b := pair(t, 9).has("/a", whole())
		for _, version := range []int{0, 12, 14, 13 + 1<<32, math.MaxInt} {
			want(t, "Set", b.do(set("/a", data, version), 1, 1), api.Result{Err: api.EVERSION})
			want(t, "Set", b.do(set("/c", data, version), 1, 1), api.Result{Err: api.ENONE})
			want(t, "Set", b.do(set("/a/b", data, version), 1, 1), api.Result{Err: api.ENONE})
		}
		want(t, "Set", b.do(set("/c", data, -1), 1, 1), api.Result{Err: api.ENONE})
	}
}

// P11.1: Set behind Set, each with the Version that the one ahead of it told; at the greatest it stays.
func TestSetInTurn(t *testing.T) {
	b := pair(t, 1)
	version := b.do(create("/a", "x", 0), 1, 1).Version
	for i := range 30 {
		r := b.do(set("/a", fill(i), version), 1, int64(100-i))
		if r.Err != api.OK || r.Version != version+1 || r.Length != i || r.Changed != int64(100-i) || r.Made != 1 {
			t.Errorf("number %d: %s", i, tell(r))
		}
		if again := b.do(set("/a", "", version), 1, 1); again.Err != api.EVERSION {
			t.Errorf("number %d, the old Version: %s", i, tell(again))
		}
		version = r.Version
	}
	n := leaf()
	n.Version = most
	b = pair(t, 1).has("/a", n)
	for range 2 {
		if r := b.do(set("/a", "", most), 1, 1); r.Version != most {
			t.Errorf("%s", tell(r))
		}
	}
}

// P11.1: Check: its errors; its Path alone is answered, and nothing changes.
func TestCheck(t *testing.T) {
	b := pair(t, 9).has("/a", whole()).has("/a/b", owned(7))
	before := state(b.x)
	for _, p := range []string{"/a", "/a/b"} {
		for _, version := range []int{-1, 13} {
			want(t, "Check", b.do(check(p, version), 1, 1), api.Result{Path: p})
		}
		for _, version := range []int{0, 12, 14, 13 + 1<<32, math.MaxInt} {
			want(t, "Check", b.do(check(p, version), 1, 1), api.Result{Err: api.EVERSION})
		}
	}
	for _, version := range []int{-1, 0, 13, math.MaxInt} {
		want(t, "Check", b.do(check("/b", version), 1, 1), api.Result{Err: api.ENONE})
		want(t, "Check", b.do(check("/a/d", version), 1, 1), api.Result{Err: api.ENONE})
	}
	if state(b.x) != before {
		t.Errorf("Check changes the tree")
	}
}

// P11.1: Get, Exists and Children: what each answers; nothing changes.
func TestReads(t *testing.T) {
	full := whole()
	full.Names = names(500)
	long := leaf()
	long.Data = fill(5000) // as Load takes it
	b := pair(t, 9).has("/a", whole()).has("/a/b", owned(7)).has("/x/y", leaf()).has("/f", full).has("/l", long).has("/n", owned(-7))
	b.do(create("/new", "", 0), 1, 77)
	before := state(b.x)
	for _, p := range b.x.Paths() {
		n, _ := b.x.Node(p)
		want(t, "Get", b.do(get(p), 1, 99), api.Result{Path: p, Data: n.Data, Stat: n.Stat})
		want(t, "Exists", b.do(exists(p), 1, 99), api.Result{Path: p, Stat: n.Stat})
		want(t, "Children", b.do(children(p), 1, 99), api.Result{Path: p, Names: n.Names, Stat: n.Stat})
	}
	w := whole().Stat
	want(t, "Get", b.do(get("/a"), 1, 99), api.Result{Path: "/a", Data: "x\xff\x00é", Stat: w})
	want(t, "Exists", b.do(exists("/a"), 1, 99), api.Result{Path: "/a", Stat: w})
	want(t, "Children", b.do(children("/a"), 1, 99), api.Result{Path: "/a", Names: []string{"b", "d", "f"}, Stat: w})
	for _, p := range []string{"/z", "/a/d", "/a/b/c", "/x", "/ab", "/A"} {
		for _, o := range []api.Op{get(p), exists(p), children(p)} {
			want(t, "none", b.do(o, 1, 99), api.Result{Err: api.ENONE})
		}
	}
	if state(b.x) != before {
		t.Errorf("reads change the tree")
	}
}

// P11.2: Of: a session's paths, rising; of 0 and below nothing, whatever Owners nodes have.
func TestOf(t *testing.T) {
	b := pair(t, 40)
	b.do(create("/d", "", 0), 5, 1)
	for _, p := range []string{"/z", "/d/b", "/B", "/d/a", "/a", "/d-"} {
		b.do(create(p, "", 1), 5, 1)
	}
	b.do(create("/d/s", "", 3), 5, 1)
	b.do(create("/other", "", 1), 6, 1)
	b.do(create("/far", "", 1), 5+1<<32, 1)
	b.do(create("/plain", "", 0), 5, 1)
	b.has("/neg", owned(-5)).has("/least", owned(math.MinInt64)).has("/zero", owned(0)).has("/laid/x", owned(5)).has("/great", owned(math.MaxInt64))
	for sess, w := range map[int64]string{
		5: "/B /a /d- /d/a /d/b /d/s0000000002 /laid/x /z", 6: "/other", 5 + 1<<32: "/far", math.MaxInt64: "/great", 1: "", 4: "", 7: "",
		0: "", -1: "", -5: "", -6: "", math.MinInt64: "",
	} {
		if s := strings.Join(b.x.Of(sess), " "); s != w {
			t.Errorf("Of(%d): %s, want %s", sess, s, w)
		}
	}
	// A Set is no change of Owner; what was deleted is nobody's.
	b.do(set("/z", "x", -1), 6, 2)
	b.do(remove("/a", -1), 6, 2)
	b.do(create("/a", "", 1), 6, 3)
	if s := strings.Join(b.x.Of(5), " ") + ", " + strings.Join(b.x.Of(6), " "); s != "/B /d- /d/a /d/b /d/s0000000002 /laid/x /z, /a /other" {
		t.Errorf("%s", s)
	}
}

// P11.2: Paths rise, by their bytes, however they came; Len counts them.
func TestPaths(t *testing.T) {
	all := []string{"/!", "/-", "/-/x", "/0", "/A", "/B", "/a", "/a-", "/a-/b", "/a/!", "/a/b", "/a/b/c", "/a0", "/aa", "/b", "/~"}
	if !slices.IsSorted(all) {
		t.Fatal("the test's own paths do not rise")
	}
	for seed := range int64(20) {
		x := empty(t, 500)
		for i, k := range rand.New(rand.NewSource(seed)).Perm(len(all)) {
			if e := x.Load(all[k], leaf()); e != api.OK || x.Len() != i+1 || len(x.Paths()) != i+1 {
				t.Fatalf("%s: %d, %d", all[k], e, x.Len())
			}
		}
		if !slices.Equal(x.Paths(), all) {
			t.Errorf("%q", x.Paths())
		}
	}
}

// laidFields are fields that Load leaves as they are, one each, at numbers that no call would make.
var laidFields = map[string]func(n *stat.Node){
	"nothing":           func(n *stat.Node) { *n = stat.Node{} },
	"an ordinary one":   func(n *stat.Node) {},
	"Made":              func(n *stat.Node) { n.Made = math.MinInt64 },
	"Changed":           func(n *stat.Node) { n.Changed = -1 },
	"Version":           func(n *stat.Node) { n.Version = -1 },
	"Version, great":    func(n *stat.Node) { n.Version = math.MaxInt },
	"Kids":              func(n *stat.Node) { n.Kids = -1 },
	"Kids, great":       func(n *stat.Node) { n.Kids = math.MaxInt },
	"Owner":             func(n *stat.Node) { n.Owner = 7 },
	"Owner below 0":     func(n *stat.Node) { n.Owner = math.MinInt64 },
	"Next":              func(n *stat.Node) { n.Next = -1 },
	"Next, great":       func(n *stat.Node) { n.Next = math.MaxInt },
	"Length":            func(n *stat.Node) { n.Length = 0 },
	"Length, great":     func(n *stat.Node) { n.Length = math.MaxInt },
	"Length below 0":    func(n *stat.Node) { n.Length = -1 },
	"Count":             func(n *stat.Node) { n.Count = 0 },
	"Count, great":      func(n *stat.Node) { n.Count = math.MaxInt },
	"Count below 0":     func(n *stat.Node) { n.Count = -1 },
	"no Data":           func(n *stat.Node) { n.Data = "" },
	"the longest Data":  func(n *stat.Node) { n.Data = fill(1000) },
	"longer Data":       func(n *stat.Node) { n.Data = fill(1 << 16) },
	"no Names":          func(n *stat.Node) { n.Names = nil },
	"an empty list":     func(n *stat.Node) { n.Names = []string{} },
	"one Name":          func(n *stat.Node) { n.Names = []string{"a"} },
	"Names by bytes":    func(n *stat.Node) { n.Names = []string{"!", "-", "0", "A", "B", "a", "a!", "aa", "b", "~"} },
	"dots":              func(n *stat.Node) { n.Names = []string{"...", ".a", "a.", "a..b"} },
	"the longest Name":  func(n *stat.Node) { n.Names = []string{fill(39), fill(40), "y"} },
	"many Names":        func(n *stat.Node) { n.Names = names(499) },
	"the most Names":    func(n *stat.Node) { n.Names = names(500) },
	"the longest Names": func(n *stat.Node) { n.Names = longNames() },
}

// longNames makes MaxNodes of MaxName bytes.
func longNames() []string {
	list := names(500)
	for i := range list {
		list[i] = fill(34) + list[i]
	}
	slices.Sort(list)
	return list
}

// P11.2: Load lays a node as it is, Length and Count by its Data and Names; its Parent is not asked.
func TestLoad(t *testing.T) {
	for what, change := range laidFields {
		for _, p := range []string{"/a", "/x/y/z", "/" + fill(40), strings.Repeat("/q", 8)} {
			b := pair(t, 500).has("/e", owned(7)).has("/b", whole())
			n := whole()
			change(&n)
			if e := b.load(p, n); e != api.OK {
				t.Errorf("%s: %d", what, e)
			}
			n.Length, n.Count = len(n.Data), len(n.Names)
			wantNode(t, b.x, p, n)
			wantNode(t, b.x, "/b", whole())
			// Its Parent may be ephemeral, and gets no Name.
			if e := b.load("/e/under", n); e != api.OK {
				t.Errorf("%s, under an ephemeral one: %d", what, e)
			}
			wantNode(t, b.x, "/e", owned(7))
			if e := b.load(p, leaf()); e != api.EEXIST {
				t.Errorf("%s, again: %d", what, e)
			}
		}
	}
}

// P11.2: what Load refuses, and in which order; nothing changes.
func TestLoadRefuses(t *testing.T) {
	badPaths := []string{"", "/", "a", "/a/", "//", "/a//b", "/.", "/..", "/a/..", "/a b", "/é", "/\x7f", "/" + fill(41), strings.Repeat("/q", 9),
		strings.Repeat("/"+fill(40), 5), fill(1 << 16)}
	badNames := [][]string{{""}, {"."}, {".."}, {"/"}, {"a/b"}, {"/a"}, {"a/"}, {"a b"}, {" "}, {"é"}, {"\x00"}, {"\x7f"}, {"\xff"}, {fill(41)}, {fill(1 << 16)},
		{"a", "a"}, {"b", "a"}, {"a", "B"}, {"aa", "a"}, {"a", "b", "b"}, {"a", "c", "b"}, {"b", "a", "c"}, {"a", "b", "a"}, {"a", "b/c"}, {"", "a"}, {".", "a"},
		{"a", "b c", "d"}, {"a", "b", "c\n"}, {"a", fill(41)}, names(501), names(600), append(names(499), "n00498"), append(names(499), "n00497x"), append(names(499), "o/"),
		make([]string, 501), make([]string, 1<<17)}
	for _, full := range []bool{false, true} {
		b := pair(t, 3).has("/a", whole()).has("/a/b", leaf())
		if full {
			b.has("/c", leaf())
		}
		before, room := state(b.x), left(b.x)
		refused := func(what, p string, n stat.Node, w api.Errno) {
			t.Helper()
			if e := b.x.Load(p, n); e != w || state(b.x) != before || left(b.x) != room {
				t.Errorf("%.60s: %d, want %d; or the tree is another", what, e, w)
			}
		}
		for _, p := range badPaths {
			refused("path "+p, p, leaf(), api.EARG)
		}
		for _, list := range badNames {
			n := whole()
			n.Names = list
			for _, p := range []string{"/q", "/a", "/a/b", "/"} { // EARG is ahead of EEXIST and EFULL
				refused(fmt.Sprintf("Names %q at %s", list[:min(len(list), 3)], p), p, n, api.EARG)
			}
		}
		refused("EEXIST", "/a", leaf(), api.EEXIST)
		refused("EEXIST", "/a/b", whole(), api.EEXIST)
		if full {
			refused("EFULL", "/q", leaf(), api.EFULL)
			refused("EFULL", "/a/q", whole(), api.EFULL)
		}
	}
}

// R4: a list of Names that is handed in is neither changed, its spare room included, nor kept.
func TestLoadList(t *testing.T) {
	for used := range 4 {
		room := []string{"b", "d", "f", "s1", "s2", "s3"}
		before := slices.Clone(room)
		n := whole()
		n.Names = room[:used]
		b := pair(t, 20).has("/a", n)
		for _, o := range []api.Op{create("/a/g", "", 0), create("/a/a", "", 0), create("/a/b", "", 0), create("/a/d", "", 0), remove("/a/b", -1), remove("/a/d", -1),
			remove("/a/g", -1), create("/a/s", "", 2), create("/a/zz", "", 1), set("/a", "", -1)} {
			b.do(o, 1, 1)
			if !slices.Equal(room, before) {
				t.Fatalf("%v: what was handed in is %q", o, room)
			}
		}
		b = pair(t, 20).has("/a", n)
		w := state(b.x)
		clear(room)
		if state(b.x) != w {
			t.Errorf("the list is kept")
		}
		room = slices.Clone(before)
		n.Names = slices.Insert(slices.Clone(before), 0, "zz")[:1]
		if e := b.x.Load("/a", n); e != api.EEXIST || !slices.Equal(n.Names[:7], append([]string{"zz"}, before...)) {
			t.Errorf("a refused one: %d, %q", e, n.Names[:7])
		}
	}
}

// Drop, by which chapter 12's Purge takes nodes away: they go, and their Names; what is under them, and all others, stay.
func TestDrop(t *testing.T) {
	for _, p := range busy(t).x.Paths() {
		b := busy(t)
		if !b.drop(p) || left(b.x) != busyLeft+1 || b.drop(p) {
			t.Errorf("Drop(%s): room for %d", p, left(b.x))
		}
		b.do(create(p, "", 0), 1, 60) // it can be made again, as a new one
	}
	b := pair(t, 9).has("/a", whole()).has("/a/b", whole()).has("/a/b/d", leaf()).has("/a/x", whole()).has("/a/none/f", owned(7))
	for i, c := range []struct {
		p string
		w string
	}{{"/a/b", "d f"}, {"/a/b/d", "d f"}, {"/a/x", "d f"}, {"/a/none/f", "d f"}} {
		if !b.drop(c.p) || b.x.Len() != 4-i {
			t.Errorf("Drop(%s): %d nodes", c.p, b.x.Len())
		}
		w := whole()
		w.Names = strings.Fields(c.w)
		w.Kids, w.Count = 15, len(w.Names)
		wantNode(t, b.x, "/a", w)
	}
	if !b.drop("/a") || b.x.Len() != 0 {
		t.Errorf("%d nodes", b.x.Len())
	}
}

// Drop where there is none: false, and nothing changes, not even a Name without a node.
func TestDropOfNone(t *testing.T) {
	b := busy(t)
	before := state(b.x)
	for _, p := range []string{"", "/", "a", "/a/", "//a", "/q", "/A", "/un", "/laid/b", "/laid/d", "/a/q", "/a/k/deep", "/neg/x", "/a\x00", fill(1 << 16)} {
		if b.drop(p) || state(b.x) != before || left(b.x) != busyLeft {
			t.Errorf("Drop(%.20q)", p)
		}
	}
}

// P11.2: Node: one that is there, and such as are not.
func TestNode(t *testing.T) {
	b := busy(t)
	wantNode(t, b.x, "/laid", whole())
	wantNode(t, b.x, "/a", stat.Node{Stat: api.Stat{Made: 5, Changed: 10, Version: 1, Kids: 3, Length: 1, Count: 3}, Data: "z", Next: 3, Names: []string{"e", "k", "s0000000002"}})
	wantNode(t, b.x, "/a/e", stat.Node{Stat: api.Stat{Made: 7, Changed: 7, Owner: 7, Length: 1}, Data: "2"})
	for _, p := range []string{"", "/", "a", "/a/", "/A", "/un", "/laid/b", "/a/e/x", "/zz", "//", "/a\x00", fill(1 << 16)} {
		if n, ok := b.x.Node(p); ok || tellNode(n) != tellNode(stat.Node{}) {
			t.Errorf("Node(%.20q): %v, %s", p, ok, tellNode(n))
		}
	}
}

// R4: what is answered does not change with the tree, nor the tree with it, spare room too; no two answers share a list.
func TestAnswersAreNew(t *testing.T) {
	b := busy(t)
	b.do(create("/z", "", 1), 7, 1)
	namesOf := func(r api.Result) []string { return r.Names }
	nodeNames := func(n stat.Node, _ bool) []string { return n.Names }
	for what, ask := range map[string]func(x *Tree) []string{
		"Paths":                func(x *Tree) []string { return x.Paths() },
		"Of":                   func(x *Tree) []string { return x.Of(7) },
		"Node":                 func(x *Tree) []string { return nodeNames(x.Node("/a")) },
		"Node, laid":           func(x *Tree) []string { return nodeNames(x.Node("/laid")) },
		"Do of Children":       func(x *Tree) []string { return namesOf(x.Do(children("/a"), 1, 1)) },
		"Do of Children, laid": func(x *Tree) []string { return namesOf(x.Do(children("/laid"), 1, 1)) },
		"Try of Children":      func(x *Tree) []string { return namesOf(x.Try(children("/a"), 1, 1)) },
	} {
		before := state(b.x)
		first, second := ask(b.x), ask(b.x)
		w := slices.Clone(first)
		if len(w) < 3 {
			t.Fatalf("%s: %q", what, w)
		}
		for _, s := range first[len(first):cap(first)] {
			if s != "" {
				t.Errorf("%s: %q stands behind the list", what, s)
			}
		}
		all := first[:cap(first)]
		for i := range all {
			all[i] = "!"
		}
		if state(b.x) != before || !slices.Equal(second, w) || !slices.Equal(ask(b.x), w) {
			t.Errorf("%s: the tree, or another answer, has the list that was answered", what)
		}
		c := b.copy()
		third := ask(c.x)
		for _, o := range []api.Op{remove("/a/e", -1), create("/a/f", "", 0), create("/a/g", "", 3), create("/laid/a", "", 1), remove("/z", -1),
			set("/a", "new", -1), set("/laid", "new", -1)} {
			c.do(o, 7, 50)
		}
		if !slices.Equal(third, w) {
			t.Errorf("%s: what was answered changes with the tree: %q", what, third)
		}
	}
	// A node that was answered is one's own.
	n, _ := b.x.Node("/a")
	before, w := state(b.x), tellNode(n)
	m, _ := b.x.Node("/a")
	m.Write(99, "other")
	m.Add("zz")
	m.Remove("e")
	m.Owner, m.Next = 5, 5
	if state(b.x) != before || tellNode(n) != w {
		t.Errorf("a node that was answered is the tree's, or another answer's")
	}
}

// changes are calls that change a busy tree, each by itself.
var changes = map[string]func(b *both){
	"Create":              func(b *both) { b.do(create("/q", "", 0), 1, 50) },
	"Create, ephemeral":   func(b *both) { b.do(create("/q", "", 1), 7, 50) },
	"Create under a node": func(b *both) { b.do(create("/a/zz", "", 0), 1, 50) },
	"Create at the front": func(b *both) { b.do(create("/a/!", "", 0), 1, 50) },
	"a number":            func(b *both) { b.do(create("/a/q", "", 3), 7, 50) },
	"under one laid":      func(b *both) { b.do(create("/laid/zz", "", 0), 1, 50) },
	"Delete":              func(b *both) { b.do(remove("/e", -1), 1, 50) },
	"Delete under a node": func(b *both) { b.do(remove("/a/e", -1), 1, 50) },
	"Delete one laid":     func(b *both) { b.do(remove("/un/der", -1), 1, 50) },
	"Set":                 func(b *both) { b.do(set("/a", "other", -1), 1, 50) },
	"Set of one laid":     func(b *both) { b.do(set("/laid", "other", -1), 1, 50) },
	"Load":                func(b *both) { b.load("/q", whole()) },
	"Load under a node":   func(b *both) { b.load("/a/q", owned(7)) },
	"Drop":                func(b *both) { b.drop("/a/k") },
}

// P11.2: Copy: the same, room and all; whatever is done to one, the other stays.
func TestCopy(t *testing.T) {
	b := busy(t)
	c := b.copy()
	if b.x == c.x || state(b.x) != state(c.x) || left(b.x) != left(c.x) || left(c.x) != busyLeft {
		t.Errorf("Copy is another: room for %d, and\n%s", left(c.x), state(c.x))
	}
	for what, change := range changes {
		for _, copied := range []bool{false, true} {
			b := busy(t)
			before := state(b.x)
			one, other := b, b.copy()
			if copied {
				one, other = other, one
			}
			change(one)
			if state(other.x) != before || left(other.x) != busyLeft {
				t.Errorf("%s: the other one is changed too", what)
			}
			if state(one.x) == before {
				t.Errorf("%s: nothing is changed", what)
			}
			for whatNext, then := range changes { // the other one goes its own way
				if whatNext != what {
					then(other)
				}
			}
			if state(one.x) != one.m.state() {
				t.Errorf("%s: it is changed by the other one", what)
			}
		}
	}
	// Not even by a write into a list, as no call makes it today.
	for _, n := range c.x.nodes {
		clear(n.Names[:cap(n.Names)])
	}
	if state(b.x) != b.m.state() {
		t.Errorf("a node and its copy share a list")
	}
	for _, room := range []int{1, 2, 500} {
		x := empty(t, room).Copy()
		if x.Len() != 0 || len(x.Paths()) != 0 || left(x) != room || left(x.Copy()) != room {
			t.Errorf("Copy of an empty one: room for %d, not %d", left(x), room)
		}
	}
}

// inside tells whether a text stands in another one's memory.
func inside(s, in string) bool {
	at, begin := uintptr(unsafe.Pointer(unsafe.StringData(s))), uintptr(unsafe.Pointer(unsafe.StringData(in)))
	return at >= begin && at < begin+uintptr(len(in))
}

// LANGUAGE 7: texts that are handed in are neither kept nor answered: a short one may be a piece of a long one.
func TestTextsAreNotKept(t *testing.T) {
	long := strings.Repeat("/abc/k/xyz", 1000)
	x := empty(t, 20)
	var told []string
	tell := func(r api.Result) {
		if r.Err != api.OK {
			t.Fatalf("%+v", r)
		}
		told = append(append(told, r.Path, r.Data), r.Names...)
	}
	tell(x.Do(create(long[:4], long[5:9], 0), 1, 1))
	tell(x.Do(create(long[:6], long[1:4], 1), 1, 1))
	tell(x.Do(create(long[:6], long[1:4], 2), 1, 1))
	tell(x.Try(set(long[:4], long[1:9], -1), 1, 1))
	tell(x.Do(set(long[:4], long[1:9], -1), 1, 1))
	for _, o := range []api.Op{get(long[:4]), exists(long[:4]), children(long[:4]), check(long[:4], -1), remove(long[:6], -1)} {
		tell(x.Do(o, 1, 1))
	}
	n := whole()
	n.Data, n.Names = long[:10], []string{long[1:4], long[5:6]}
	if e := x.Load(long[:10], n); e != api.OK {
		t.Fatalf("Load: %d", e)
	}
	told = append(append(told, x.Paths()...), x.Of(1)...)
	for _, p := range x.Paths() {
		n, _ := x.Node(p)
		told = append(append(told, n.Data), n.Names...)
	}
	for _, c := range []*Tree{x, x.Copy()} {
		for _, p := range c.Paths() {
			told = append(told, p)
		}
	}
	for _, s := range told {
		if inside(s, long) {
			t.Errorf("%q is the text that was handed in", s)
		}
	}
}

// R5: the same calls, the same answers; and no tree knows of another.
func TestSameCallsSameAnswers(t *testing.T) {
	a, b, other := empty(t, 8), empty(t, 8), empty(t, 3)
	luckA, luckB := rand.New(rand.NewSource(5)), rand.New(rand.NewSource(5))
	for i := range 3000 {
		other.Do(anyOp(rand.New(rand.NewSource(int64(i)))), 2, 2)
		o, p := anyOp(luckA), anyOp(luckB)
		if x, y := a.Do(o, 1, int64(i)), b.Do(p, 1, int64(i)); tell(x) != tell(y) {
			t.Fatalf("%v: %s, %s", o, tell(x), tell(y))
		}
	}
	if state(a) != state(b) {
		t.Errorf("they are not alike")
	}
}

// anyPath makes one of few, so that they meet.
func anyPath(luck *rand.Rand) string {
	p := ""
	for range 1 + luck.Intn(3) {
		p += "/" + []string{"a", "b", "s0000000001"}[luck.Intn(8)*3/8]
	}
	return p
}

// anyOp makes an Op that Good mostly takes.
func anyOp(luck *rand.Rand) api.Op {
	o := api.Op{Kind: 1 + luck.Intn(7), Path: anyPath(luck)}
	switch o.Kind {
	case api.Create:
		o.Data, o.Flags = fill(luck.Intn(3)), luck.Intn(4)
		if o.Flags >= 2 {
			o.Path = parent(o.Path) + "/s"
		}
	case api.Set:
		o.Data, o.Version = fill(luck.Intn(3)), luck.Intn(4)-1
	case api.Delete, api.Check:
		o.Version = luck.Intn(3) - 1
	}
	if luck.Intn(30) == 0 {
		o.Flags++
	}
	return o
}

// anyNode makes one that may be laid.
func anyNode(luck *rand.Rand) stat.Node {
	n := stat.Node{Data: fill(luck.Intn(3)), Next: []int{0, 1, 5, -1, most - 1, most, most + 1}[luck.Intn(7)]}
	n.Made, n.Changed, n.Version, n.Kids = int64(luck.Intn(9)), int64(luck.Intn(9)), luck.Intn(3), luck.Intn(3)
	n.Owner = []int64{0, 0, 0, 1, 2, -7}[luck.Intn(6)]
	for _, s := range []string{"a", "b", "s0000000001"} {
		if luck.Intn(4) == 0 {
			n.Names = append(n.Names, s)
		}
	}
	return n
}

// P11.1, P11.2: long runs, held against the model, call by call; trees and copies of them by turns.
func TestLongRuns(t *testing.T) {
	met := map[api.Errno]int{}
	for seed := range int64(150) {
		luck := rand.New(rand.NewSource(seed))
		list := []*both{pair(t, 1+luck.Intn(12))}
		for i := range 300 {
			b := list[luck.Intn(len(list))]
			switch k := luck.Intn(40); {
			case k == 0 && len(list) < 4:
				list = append(list, b.copy())
			case k < 3:
				b.load(anyPath(luck), anyNode(luck))
			case k == 3:
				b.drop(anyPath(luck))
			default:
				met[b.do(anyOp(luck), int64(luck.Intn(25)), int64(i-luck.Intn(5))).Err]++
			}
			if t.Failed() {
				t.Fatalf("seed %d, step %d", seed, i)
			}
		}
		for _, b := range list {
			if state(b.x) != b.m.state() || left(b.x) != b.m.room-len(b.m.nodes) {
				t.Fatalf("seed %d: a tree is changed by another one", seed)
			}
		}
	}
	for _, e := range []api.Errno{api.OK, api.EARG, api.ENONE, api.EEXIST, api.EVERSION, api.EKIDS, api.EEPH, api.EFULL} {
		if met[e] < 20 {
			t.Errorf("error %d was met %d times alone", e, met[e])
		}
	}
}

// The limits: a tree of MaxNodes nodes, all of them as great as may be, under one Parent.
func TestGreatest(t *testing.T) {
	x := empty(t, 500)
	top := "/" + fill(40)
	if r := x.Do(create(top, fill(1000), 0), 1, 1); r.Err != api.OK {
		t.Fatalf("%+v", r)
	}
	for i := range 499 {
		r := x.Do(create(top+"/"+fill(30), fill(1000), 3), 1, 1)
		if w := fmt.Sprintf("%s/%s%010d", top, fill(30), i); r.Err != api.OK || r.Path != w {
			t.Fatalf("number %d: %s", i, tell(r))
		}
	}
	if r := x.Do(create(top+"/"+fill(30), fill(1000), 3), 1, 1); r.Err != api.EFULL {
		t.Errorf("one more: %s", tell(r))
	}
	r := x.Do(children(top), 1, 1)
	if len(r.Names) != 499 || r.Count != 499 || r.Kids != 499 || len(x.Of(1)) != 499 || x.Len() != 500 || !slices.IsSorted(r.Names) {
		t.Errorf("%d Names, %d paths, Len %d", len(r.Names), len(x.Of(1)), x.Len())
	}
	for _, p := range x.Of(1) {
		if r := x.Do(remove(p, 0), 1, 1); r.Err != api.OK {
			t.Fatalf("%s", tell(r))
		}
	}
	if r := x.Do(exists(top), 1, 1); r.Count != 0 || r.Kids != 998 || x.Len() != 1 {
		t.Errorf("%s", tell(r))
	}
}
