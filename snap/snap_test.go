package snap

import (
	"fmt"
	"math"
	"math/rand"
	"slices"
	"strings"
	"testing"

	"aviary/api"
	"aviary/multi"
	"aviary/stat"
	"aviary/tree"
)

// done makes a tree by Ops, each session 3's and of the next transaction.
func done(t *testing.T, room int, ops ...api.Op) *tree.Tree {
	t.Helper()
	x := laid(t, room)
	for i, o := range ops {
		if r := x.Do(o, 3, int64(i+1)); r.Err != api.OK {
			t.Fatalf("Op %d: %d", i, r.Err)
		}
	}
	return x
}

// some makes a tree with something of each: Names, a path between a Parent and one under it, ephemeral nodes, depth.
func some(t *testing.T, room int) *tree.Tree {
	t.Helper()
	return done(t, room,
		api.Op{Kind: api.Create, Path: "/b", Data: "d"},
		api.Op{Kind: api.Create, Path: "/a"},
		api.Op{Kind: api.Create, Path: "/b/y", Flags: 2},
		api.Op{Kind: api.Create, Path: "/b/x", Flags: 1, Data: "\x00\xff"},
		api.Op{Kind: api.Create, Path: "/b-", Flags: 1},
		api.Op{Kind: api.Create, Path: "/b/c"},
		api.Op{Kind: api.Create, Path: "/b/c/d", Flags: 1},
		api.Op{Kind: api.Delete, Path: "/b/y0000000000"},
		api.Op{Kind: api.Set, Path: "/a", Data: "new"})
}

// The chapter's example.
func TestExample(t *testing.T) {
	if b := Put(laid(t, 1)); string(b) != "\x00\x00\x00\x00\x00\x00\x00\x00" {
		t.Errorf("%x", b)
	}
}

// P14.1: Put: the bytes one by one, written out here.
func TestPutBytes(t *testing.T) {
	const nought = "\x00\x00\x00\x00\x00\x00\x00\x00"
	n := func(v byte) string { return nought[:7] + string([]byte{v}) }
	for i, c := range []struct {
		ops  []api.Op
		want string
	}{
		{nil, nought},
		{[]api.Op{{Kind: api.Create, Path: "/a"}},
			n(1) + n(2) + "/a" + n(1) + n(1) + nought + nought + nought + nought + nought + nought},
		{[]api.Op{{Kind: api.Create, Path: "/a", Flags: 1, Data: "xyz"}},
			n(1) + n(2) + "/a" + n(1) + n(1) + nought + nought + n(3) + nought + n(3) + "xyz" + nought},
		{[]api.Op{{Kind: api.Create, Path: "/b"}, {Kind: api.Create, Path: "/a"}, {Kind: api.Set, Path: "/b", Data: "q"}},
			n(2) + n(2) + "/a" + n(2) + n(2) + nought + nought + nought + nought + nought + nought +
				n(2) + "/b" + n(1) + n(3) + n(1) + nought + nought + nought + n(1) + "q" + nought},
		{[]api.Op{{Kind: api.Create, Path: "/a"}, {Kind: api.Create, Path: "/a/z"}, {Kind: api.Create, Path: "/a/cd"}, {Kind: api.Create, Path: "/a-"}, {Kind: api.Delete, Path: "/a/z"}, {Kind: api.Create, Path: "/a/b", Flags: 1}},
			n(4) + n(2) + "/a" + n(1) + n(1) + nought + n(4) + nought + n(3) + nought + n(2) + n(1) + "b" + n(2) + "cd" +
				n(3) + "/a-" + n(4) + n(4) + nought + nought + nought + nought + nought + nought +
				n(4) + "/a/b" + n(6) + n(6) + nought + nought + n(3) + nought + nought + nought +
				n(5) + "/a/cd" + n(3) + n(3) + nought + nought + nought + nought + nought + nought},
	} {
		x := done(t, 9, c.ops...)
		b := Put(x)
		if string(b) != c.want {
			t.Errorf("number %d: %x\nwant %x", i, b, c.want)
		}
		y, e := Get(b, 9)
		if e != api.OK || tell(nodesOf(y)) != tell(nodesOf(x)) {
			t.Errorf("number %d: read back: %d", i, e)
		}
	}
}

// P14.1: Put of nodes that were laid in as they are, whatever they have.
func TestPutLaid(t *testing.T) {
	extreme := one{"/~", stat.Node{Stat: api.Stat{Made: math.MinInt64, Changed: math.MaxInt64, Version: math.MaxInt32, Kids: math.MaxInt32, Owner: math.MinInt64, Length: 1000}, Data: strings.Repeat("\xfe", 1000), Next: math.MaxInt32}}
	odd := one{"/a/b", stat.Node{Stat: api.Stat{Version: -1, Kids: -2, Owner: -1, Length: 1001, Count: 1}, Data: strings.Repeat("d", 1001), Next: -3, Names: []string{"nobody"}}}
	for i, list := range [][]one{
		{full("/a")}, {full("/a", "b", "d"), full("/a-"), full("/a/b", "c"), full("/a/b/c"), full("/a/d")},
		{extreme}, {odd}, {full("/a", "b"), odd, extreme}, {owned("/a/b", 5), owned("/c", 7, "d")},
	} {
		if b := Put(laid(t, 9, list...)); string(b) != string(written(list...)) {
			t.Errorf("number %d: %x\nwant %x", i, b, written(list...))
		}
		back := slices.Clone(list)
		slices.Reverse(back)
		if b := Put(laid(t, 500, back...)); string(b) != string(written(list...)) {
			t.Errorf("number %d, laid in another order: %x", i, b)
		}
		for _, room := range []int{0, 1, 9} {
			holdGet(t, fmt.Sprint("number ", i), written(list...), room)
		}
	}
	if e := holdGet(t, "the greatest numbers", written(extreme), 1); e != api.OK {
		t.Errorf("%d", e)
	}
}

// P14.1: Get: the rooms that may be; which error is told where several could be.
func TestGetRooms(t *testing.T) {
	good := Put(some(t, 9)) // six nodes
	bad := append(slices.Clone(good), 0)
	for _, c := range []struct {
		room              int
		good, bad, nobody api.Errno
	}{
		{math.MinInt, api.EARG, api.EARG, api.EARG}, {-1, api.EARG, api.EARG, api.EARG}, {0, api.EARG, api.EARG, api.EARG},
		{1, api.ELIMIT, api.EFORM, api.OK}, {5, api.ELIMIT, api.EFORM, api.OK}, {6, api.OK, api.EFORM, api.OK}, {7, api.OK, api.EFORM, api.OK},
		{499, api.OK, api.EFORM, api.OK}, {500, api.OK, api.EFORM, api.OK},
		{501, api.EARG, api.EARG, api.EARG}, {math.MaxInt, api.EARG, api.EARG, api.EARG},
	} {
		for _, one := range []struct {
			b []byte
			e api.Errno
		}{{good, c.good}, {bad, c.bad}, {good[:len(good)-1], c.bad}, {nil, c.bad}, {[]byte{}, c.bad}, {make([]byte, 8), c.nobody}} {
			if e := holdGet(t, "rooms", one.b, c.room); e != one.e {
				t.Errorf("room %d, %d bytes: %d, want %d", c.room, len(one.b), e, one.e)
			}
		}
	}
}

// P14.1: what Get tells has the room that it was asked for, and does what a tree does.
func TestGetIsATree(t *testing.T) {
	b := Put(some(t, 9))
	for _, room := range []int{6, 7, 9, 10, 500} {
		x, e := Get(b, room)
		if e != api.OK {
			t.Fatalf("room %d: %d", room, e)
		}
		for i := 6; i < room; i++ {
			if r := x.Do(api.Op{Kind: api.Create, Path: fmt.Sprint("/n", i)}, 1, 20); r.Err != api.OK {
				t.Fatalf("room %d: %d with %d nodes", room, r.Err, i)
			}
		}
		if r := x.Do(api.Op{Kind: api.Create, Path: "/more"}, 1, 20); r.Err != api.EFULL {
			t.Errorf("room %d: one more: %d", room, r.Err)
		}
	}
	x, _ := Get(b, 9)
	if r := x.Do(api.Op{Kind: api.Create, Path: "/b/s", Flags: 2}, 1, 20); r.Path != "/b/s0000000003" {
		t.Errorf("%+v", r)
	}
	if r := x.Do(api.Op{Kind: api.Children, Path: "/b"}, 1, 21); fmt.Sprint(r.Names) != "[c s0000000003 x]" {
		t.Errorf("%+v", r)
	}
	if gone := multi.Purge(x, 3); fmt.Sprint(gone) != "[/b/c/d /b/x /b-]" {
		t.Errorf("%v", gone)
	}
	if fmt.Sprint(x.Paths()) != "[/a /b /b/c /b/s0000000003]" {
		t.Errorf("%v", x.Paths())
	}
}

// P14.1: Get: bytes cut off at every place, one byte more at every place, one less, one changed, each way.
func TestGetOfBytesThatWere(t *testing.T) {
	b := Put(some(t, 9))
	for at := range b {
		if e := holdGet(t, "cut off", b[:at], 9); e != api.EFORM {
			t.Errorf("the first %d bytes: %d", at, e)
		}
		if e := holdGet(t, "begun late", b[at+1:], 9); e != api.EFORM && len(b)-at-1 > 8 {
			t.Errorf("without the first %d bytes: %d", at+1, e)
		}
		holdGet(t, "one less", append(slices.Clone(b[:at]), b[at+1:]...), 9)
		for v := range 256 {
			changed := slices.Clone(b)
			changed[at] = byte(v)
			holdGet(t, "changed", changed, 9)
		}
		for _, v := range []byte{0, 1, 'a', 255} {
			holdGet(t, "one more", slices.Insert(slices.Clone(b), at, v), 9)
		}
	}
	for v := range 256 {
		if e := holdGet(t, "one behind", append(slices.Clone(b), byte(v)), 9); e != api.EFORM {
			t.Errorf("a byte %d behind: %d", v, e)
		}
	}
	if e := holdGet(t, "twice", append(slices.Clone(b), b...), 500); e != api.EFORM {
		t.Errorf("twice: %d", e)
	}
}

// P14.1: Get: which nodes are a tree, and which are none.
func TestGetShapes(t *testing.T) {
	long := "/" + strings.Repeat("n", 40)
	longest := strings.Repeat(long, 4) + "/" + strings.Repeat("n", 35)
	for i, c := range []struct {
		list []one
		e    api.Errno
	}{
		{[]one{}, api.OK}, {[]one{plain("/a")}, api.OK}, {[]one{full("/a")}, api.OK}, {[]one{owned("/a", 4)}, api.OK}, {[]one{owned("/a", -4)}, api.OK},
		// Paths that do not rise, one twice.
		{[]one{plain("/a"), plain("/b")}, api.OK}, {[]one{plain("/b"), plain("/a")}, api.EFORM}, {[]one{plain("/a"), plain("/a")}, api.EFORM},
		{[]one{plain("/a"), plain("/c"), plain("/b")}, api.EFORM}, {[]one{plain("/a"), plain("/b"), plain("/a")}, api.EFORM}, {[]one{full("/a"), plain("/a")}, api.EFORM},
		{[]one{plain("/a", "b"), plain("/a/b"), plain("/a/b")}, api.EFORM}, {[]one{plain("/a/b"), plain("/a", "b")}, api.EFORM}, {[]one{plain("/B"), plain("/a")}, api.OK}, {[]one{plain("/a"), plain("/B")}, api.EFORM},
		// By their bytes one may be between a Parent and those under it.
		{[]one{plain("/a", "b"), plain("/a-"), plain("/a/b")}, api.OK}, {[]one{plain("/a", "b"), plain("/a/b"), plain("/a-")}, api.EFORM}, {[]one{plain("/a", "b"), plain("/a/b"), plain("/a0")}, api.OK},
		{[]one{plain("/a", "b", "b-"), plain("/a/b", "c"), plain("/a/b-"), plain("/a/b/c")}, api.OK},
		// What is no path.
		{[]one{plain("")}, api.EFORM}, {[]one{plain("/")}, api.EFORM}, {[]one{plain("a")}, api.EFORM}, {[]one{plain("/a/")}, api.EFORM}, {[]one{plain("//a")}, api.EFORM}, {[]one{plain("/.")}, api.EFORM}, {[]one{plain("/..")}, api.EFORM},
		{[]one{plain("/a b")}, api.EFORM}, {[]one{plain("/\x7f")}, api.EFORM}, {[]one{plain("/é")}, api.EFORM}, {[]one{plain("/\x00")}, api.EFORM}, {[]one{plain("/!"), plain("/~")}, api.OK}, {[]one{plain(long)}, api.OK}, {[]one{plain(long + "n")}, api.EFORM},
		{[]one{plain("/a"), plain("b")}, api.EFORM}, {[]one{plain("/a", "."), plain("/a/.")}, api.EFORM}, {[]one{plain("/a", ""), plain("/a/")}, api.EFORM}, {chain("/a/a/a/a/a/a/a/a"), api.OK}, {chain("/a/a/a/a/a/a/a/a/a"), api.EFORM},
		{chain(longest), api.OK}, {chain(longest + "n"), api.EFORM}, {[]one{plain(strings.Repeat("/a", 2000))}, api.EFORM},
		// A Parent that is not there.
		{[]one{plain("/a/b")}, api.EFORM}, {[]one{plain("/a"), plain("/b/c")}, api.EFORM}, {[]one{plain("/a", "b"), plain("/a/b/c")}, api.EFORM}, {[]one{plain("/a"), plain("/a/b/c")}, api.EFORM}, {[]one{plain("/a", "b"), plain("/a/b", "c"), plain("/a/b/c/d")}, api.EFORM},
		{[]one{plain("/a", "b"), plain("/b/b")}, api.EFORM}, {[]one{plain("/a/b"), plain("/b", "b")}, api.EFORM}, {[]one{plain("/a", "b/c"), plain("/a/b/c")}, api.EFORM},
		// A Parent that has a Name less, one more, another one.
		{[]one{plain("/a", "b"), plain("/a/b")}, api.OK}, {[]one{plain("/a"), plain("/a/b")}, api.EFORM}, {[]one{plain("/a", "b")}, api.EFORM}, {[]one{plain("/a", "b"), plain("/b")}, api.EFORM}, {[]one{plain("/a", "b", "c"), plain("/a/b")}, api.EFORM}, {[]one{plain("/a", "b", "c"), plain("/a/c")}, api.EFORM},
		{[]one{plain("/a", "b"), plain("/a/b"), plain("/a/c")}, api.EFORM}, {[]one{plain("/a", "c"), plain("/a/b"), plain("/a/c")}, api.EFORM}, {[]one{plain("/a", "c"), plain("/a/b")}, api.EFORM}, {[]one{plain("/a", "b", "c"), plain("/a/b"), plain("/a/c")}, api.OK},
		{[]one{plain("/a", "b", "d"), plain("/a/b"), plain("/a/c")}, api.EFORM}, {[]one{plain("/a", "a"), plain("/a/a", "a"), plain("/a/a/a")}, api.OK}, {[]one{plain("/a", "a"), plain("/a/a"), plain("/a/a/a")}, api.EFORM}, {[]one{plain("/a", "a"), plain("/a/a", "a")}, api.EFORM},
		{[]one{plain("/a", "b"), plain("/a/b"), plain("/c"), plain("/c/b")}, api.EFORM}, {[]one{plain("/a"), plain("/a/b"), plain("/c", "b")}, api.EFORM}, {[]one{plain("/a", "b"), plain("/a/b"), plain("/c", "b"), plain("/c/b")}, api.OK}, {[]one{plain("/a", "b"), plain("/a/b", "b"), plain("/c"), plain("/c/b")}, api.EFORM},
		// Names that do not rise, or are no names.
		{[]one{plain("/a", "c", "b"), plain("/a/b"), plain("/a/c")}, api.EFORM}, {[]one{plain("/a", "b", "b"), plain("/a/b")}, api.EFORM}, {[]one{plain("/a", "")}, api.EFORM}, {[]one{plain("/a", "/")}, api.EFORM}, {[]one{plain("/a", strings.Repeat("n", 41))}, api.EFORM},
		// A Parent that is Ephemeral.
		{[]one{owned("/a", 4, "b"), plain("/a/b")}, api.EFORM}, {[]one{owned("/a", -1, "b"), plain("/a/b")}, api.EFORM}, {[]one{owned("/a", 4), plain("/a/b")}, api.EFORM}, {[]one{owned("/a", 4, "b")}, api.EFORM}, {[]one{plain("/a", "b"), owned("/a/b", 4)}, api.OK},
		{[]one{plain("/a", "b"), owned("/a/b", 4, "c"), plain("/a/b/c")}, api.EFORM}, {[]one{plain("/a", "b"), owned("/a/b", 1, "c"), owned("/a/b/c", 1)}, api.EFORM}, {[]one{owned("/a", math.MinInt64, "b"), plain("/a/b")}, api.EFORM},
	} {
		if e := holdGet(t, fmt.Sprint("number ", i), written(c.list...), 50); e != c.e {
			t.Errorf("number %d: %d, want %d\n%s", i, e, c.e, tell(c.list))
		}
	}
}

// chain makes the nodes of a path and of all above it.
func chain(p string) []one {
	names := strings.Split(p[1:], "/")
	var list []one
	for i := range names {
		list = append(list, plain("/"+strings.Join(names[:i+1], "/"), names[i+1:min(i+2, len(names))]...))
	}
	return list
}

// P14.1: Get: a node that stat's Get does not read is no node.
func TestGetOfNodesThatMayNotBe(t *testing.T) {
	for i, c := range []struct {
		spoil func(*one)
		e     api.Errno
	}{
		{func(o *one) {}, api.OK}, {func(o *one) { o.Data = strings.Repeat("x", 1000) }, api.OK}, {func(o *one) { o.Data = strings.Repeat("x", 1001) }, api.EFORM},
		{func(o *one) { o.Version = math.MaxInt32 }, api.OK}, {func(o *one) { o.Version = math.MaxInt32 + 1 }, api.EFORM}, {func(o *one) { o.Version = -1 }, api.EFORM},
		{func(o *one) { o.Kids = math.MaxInt32 }, api.OK}, {func(o *one) { o.Kids = math.MaxInt32 + 1 }, api.EFORM}, {func(o *one) { o.Kids = -1 }, api.EFORM},
		{func(o *one) { o.Next = math.MaxInt32 }, api.OK}, {func(o *one) { o.Next = math.MaxInt32 + 1 }, api.EFORM}, {func(o *one) { o.Next = -1 }, api.EFORM},
		{func(o *one) { o.Made, o.Changed = -1, math.MinInt64 }, api.OK}, {func(o *one) { o.Made, o.Changed = math.MaxInt64, 0 }, api.OK},
	} {
		for at := range 3 {
			list := []one{full("/a"), full("/b"), full("/c")}
			c.spoil(&list[at])
			if e := holdGet(t, fmt.Sprint("number ", i), written(list...), 3); e != c.e {
				t.Errorf("number %d, node %d: %d, want %d", i, at, e, c.e)
			}
			if e := holdGet(t, fmt.Sprint("number ", i), written(list...), 2); e != max(c.e, api.ELIMIT) {
				t.Errorf("number %d, node %d, no room: %d", i, at, e)
			}
		}
	}
}

// P14.1: Get: as many nodes as may be, as room; one more.
func TestGetOfMany(t *testing.T) {
	flat := func(n int) []one {
		var list []one
		for i := range n {
			list = append(list, plain(fmt.Sprintf("/n%03d", i)))
		}
		return list
	}
	under := func(n int) []one {
		list := []one{plain("/a")}
		for i := range n - 1 {
			list[0].Names = append(list[0].Names, fmt.Sprintf("n%03d", i))
			list = append(list, plain(fmt.Sprintf("/a/n%03d", i)))
		}
		list[0].Count = n - 1
		return list
	}
	for _, grow := range []func(int) []one{flat, under} {
		for _, c := range []struct {
			nodes, room int
			e           api.Errno
		}{
			{1, 1, api.OK}, {2, 1, api.ELIMIT}, {3, 3, api.OK}, {4, 3, api.ELIMIT}, {499, 500, api.OK}, {500, 500, api.OK}, {500, 499, api.ELIMIT}, {500, 1, api.ELIMIT}, {499, 498, api.ELIMIT},
			{501, 500, api.EFORM}, {501, 1, api.EFORM}, {501, 499, api.EFORM}, {502, 500, api.EFORM}, {700, 500, api.EFORM}, {501, 501, api.EARG}, {500, 501, api.EARG}, {500, 0, api.EARG},
		} {
			if e := holdGet(t, "many", written(grow(c.nodes)...), c.room); e != c.e {
				t.Errorf("%d nodes, room %d: %d, want %d", c.nodes, c.room, e, c.e)
			}
		}
	}
	if b := Put(laid(t, 500, flat(500)...)); string(b) != string(written(flat(500)...)) {
		t.Errorf("Put of 500")
	}
	late := flat(500)
	late[499].path = late[498].path
	if e := holdGet(t, "late", written(late...), 10); e != api.EFORM {
		t.Errorf("the last one twice, no room: %d", e)
	}
}

// P14.1: Get: a number of nodes that the bytes do not have.
func TestGetOfNumbers(t *testing.T) {
	two := []one{full("/a"), full("/b")}
	for _, n := range []int64{math.MinInt64, -256, -2, -1, 0, 1, 3, 4, 499, 500, 501, 502, 1 << 31, 1 << 32, 1<<32 + 2, 1 << 62, math.MaxInt64} {
		for _, room := range []int{1, 2, 500} {
			if e := holdGet(t, fmt.Sprint("two of ", n), counted(n, two...), room); e != api.EFORM {
				t.Errorf("two nodes, but %d: %d", n, e)
			}
			if e := holdGet(t, fmt.Sprint("none of ", n), counted(n), room); n != 0 && e != api.EFORM {
				t.Errorf("no nodes, but %d: %d", n, e)
			}
		}
	}
	if e := holdGet(t, "two", counted(2, two...), 2); e != api.OK {
		t.Errorf("two: %d", e)
	}
}

// P14.1: Same: the same paths, the same nodes; the room is not asked.
func TestSame(t *testing.T) {
	change := func(f func(*one)) []one {
		o := full("/a", "b")
		f(&o)
		return []one{o, full("/b")}
	}
	base := change(func(*one) {})
	for i, c := range []struct {
		a, b []one
		same bool
	}{
		{nil, nil, true}, {nil, base, false}, {base, base, true}, {base, change(func(*one) {}), true},
		{base, base[:1], false}, {base, base[1:], false}, {base, append(slices.Clone(base), full("/c")), false}, {base, []one{base[0], full("/c")}, false}, {base, []one{full("/0", "b"), full("/b")}, false},
		{base, change(func(o *one) { o.Made++ }), false}, {base, change(func(o *one) { o.Changed++ }), false}, {base, change(func(o *one) { o.Version++ }), false}, {base, change(func(o *one) { o.Kids++ }), false}, {base, change(func(o *one) { o.Owner++ }), false}, {base, change(func(o *one) { o.Next++ }), false},
		{base, change(func(o *one) { o.Data = "x\xff\x00e" }), false}, {base, change(func(o *one) { o.Data = "" }), false}, {base, change(func(o *one) { o.Names = nil }), false}, {base, change(func(o *one) { o.Names = []string{"c"} }), false}, {base, change(func(o *one) { o.Names = []string{"b", "c"} }), false},
		{[]one{full("/a"), full("/b", "x")}, []one{full("/a", "x"), full("/b")}, false}, {[]one{full("/a"), full("/b", "x")}, []one{full("/a"), full("/b")}, false}, {[]one{full("/a")}, []one{full("/b")}, false},
		{[]one{full("/a/b")}, []one{full("/a/b")}, true}, {[]one{full("/a", "b")}, []one{full("/a/b")}, false},
	} {
		for _, room := range []int{3, 7, 500} {
			a, b := laid(t, 3, c.a...), laid(t, room, c.b...)
			if Same(a, b) != c.same || Same(b, a) != c.same || !Same(a, a) || !Same(b, b.Copy()) || !Same(a.Copy(), a) {
				t.Errorf("number %d, room %d: want %v", i, room, c.same)
			}
		}
	}
	x := some(t, 9)
	y := x.Copy()
	if r := y.Do(api.Op{Kind: api.Get, Path: "/a"}, 1, 30); r.Err != api.OK || !Same(x, y) {
		t.Errorf("behind a Get")
	}
	if r := y.Do(api.Op{Kind: api.Set, Path: "/b/c/d", Version: -1}, 1, 30); r.Err != api.OK || Same(x, y) || Same(y, x) {
		t.Errorf("behind a Set")
	}
	if r := x.Do(api.Op{Kind: api.Set, Path: "/b/c/d", Version: -1}, 2, 30); r.Err != api.OK || !Same(x, y) || !Same(y, x) {
		t.Errorf("behind the same Set")
	}
}

// R4: what Put answers is new memory, spare room too; it changes nothing of the tree.
func TestPutIsNew(t *testing.T) {
	x := some(t, 9)
	was := tell(nodesOf(x))
	first := Put(x)
	want := string(first)
	second := Put(x)
	for i := range first[:cap(first)] {
		first[:cap(first)][i] = 0xee
	}
	if string(second) != want || string(Put(x)) != want || tell(nodesOf(x)) != was || x.Len() != 6 {
		t.Errorf("%x", second)
	}
	y := x.Copy()
	Same(x, y)
	if tell(nodesOf(x)) != was || tell(nodesOf(y)) != was {
		t.Errorf("Same changes")
	}
}

// R4: Get keeps nothing of the bytes, changes none of them, nor their spare room; two of its trees are apart.
func TestGetKeepsNothing(t *testing.T) {
	good := Put(some(t, 9))
	whole := append(slices.Clone(good), "spare room"...)
	b := whole[:len(good)]
	x, _ := Get(b, 9)
	y, _ := Get(b, 9)
	Get(b[:20], 9)
	Get(b, 2)
	if string(whole) != string(good)+"spare room" {
		t.Errorf("the bytes are changed")
	}
	was := tell(nodesOf(x))
	for i := range whole {
		whole[i] = 0xee
	}
	if tell(nodesOf(x)) != was || string(Put(x)) != string(good) {
		t.Errorf("the bytes are kept")
	}
	for _, o := range []api.Op{{Kind: api.Create, Path: "/b/n"}, {Kind: api.Set, Path: "/a", Data: "other", Version: -1}, {Kind: api.Delete, Path: "/b/x"}} {
		if r := x.Do(o, 3, 40); r.Err != api.OK {
			t.Fatalf("%d", r.Err)
		}
	}
	if tell(nodesOf(y)) != was || Same(x, y) || string(Put(y)) != string(good) {
		t.Errorf("two trees are one")
	}
}

// P14.1: long runs: trees that grow and shrink, written, read back, held against each other; their bytes spoiled anyhow.
func TestLongRuns(t *testing.T) {
	for seed := range int64(30) {
		r := rand.New(rand.NewSource(seed))
		x := laid(t, 40)
		for step := range int64(60) {
			before := x.Copy()
			x.Do(anyOp(r, x), 1+r.Int63n(3), step)
			b := Put(x)
			if string(b) != string(written(nodesOf(x)...)) {
				t.Fatalf("Put: %x\nwant %x", b, written(nodesOf(x)...))
			}
			if Same(before, x) != (tell(nodesOf(before)) == tell(nodesOf(x))) {
				t.Fatalf("Same: %v", Same(before, x))
			}
			if e := holdGet(t, "grown", b, 40); e != api.OK {
				t.Fatalf("Get: %d", e)
			}
			holdGet(t, "grown", b, 1+r.Intn(40))
			for range 4 {
				holdGet(t, "spoiled", spoiled(r, b), 40)
				holdGet(t, "mixed", written(mixed(r, nodesOf(x))...), 1+r.Intn(60))
			}
		}
	}
}

// anyOp tells an Op, mostly of a path that is there or right under one.
func anyOp(r *rand.Rand, x *tree.Tree) api.Op {
	p := fmt.Sprintf("/%c", 'a'+r.Intn(4))
	if paths := x.Paths(); len(paths) > 0 && r.Intn(4) > 0 {
		p = paths[r.Intn(len(paths))]
		if r.Intn(2) == 0 {
			p += fmt.Sprintf("/%c", "-a0z"[r.Intn(4)])
		}
	}
	return api.Op{Kind: []int{1, 1, 1, 2, 3}[r.Intn(5)], Path: p, Data: strings.Repeat("d", r.Intn(9)), Version: -1 * r.Intn(2), Flags: r.Intn(4) * r.Intn(2)}
}

// spoiled changes some bytes.
func spoiled(r *rand.Rand, b []byte) []byte {
	b = slices.Clone(b)
	for range 1 + r.Intn(2) {
		at := r.Intn(len(b))
		switch r.Intn(3) {
		case 0:
			b[at] ^= 1 << r.Intn(8)
		case 1:
			b[at] = "/a-z.\x00\x01\x02"[r.Intn(8)]
		case 2:
			return b[:at]
		}
	}
	return b
}

// mixed changes nodes: takes one away, doubles it, moves it, gives it an Owner, another Name, one less.
func mixed(r *rand.Rand, list []one) []one {
	if len(list) == 0 {
		return []one{plain("/a/b")}
	}
	i, j := r.Intn(len(list)), r.Intn(len(list))
	o := &list[i]
	switch r.Intn(7) {
	case 0:
		return slices.Delete(list, i, i+1)
	case 1:
		return slices.Insert(list, i, list[j])
	case 2:
		list[i], list[j] = list[j], list[i]
	case 3:
		o.Owner = r.Int63n(3) - 1
	case 4:
		o.Names = append(o.Names, "zz")
	case 5:
		o.Names = o.Names[:len(o.Names)/2]
	case 6:
		o.path += fmt.Sprint("/", r.Intn(2))
	}
	return list
}
