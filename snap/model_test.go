package snap

import (
	"encoding/binary"
	"fmt"
	"math"
	"regexp"
	"sort"
	"strings"
	"testing"

	"aviary/api"
	"aviary/stat"
	"aviary/tree"
)

// one is a node and where it is: what the bytes have of each.
type one struct {
	path string
	stat.Node
}

// written makes the bytes of a list of nodes, whatever they are, by the chapters' words alone.
func written(list ...one) []byte { return counted(int64(len(list)), list...) }

// counted is written with another number ahead.
func counted(n int64, list ...one) []byte {
	b := number(nil, n)
	for _, o := range list {
		b = text(b, o.path)
		for _, v := range []int64{o.Made, o.Changed, int64(o.Version), int64(o.Kids), o.Owner, int64(o.Next)} {
			b = number(b, v)
		}
		b = number(text(b, o.Data), int64(len(o.Names)))
		for _, name := range o.Names {
			b = text(b, name)
		}
	}
	return b
}

func number(b []byte, v int64) []byte { return binary.BigEndian.AppendUint64(b, uint64(v)) }

func text(b []byte, s string) []byte { return append(number(b, int64(len(s))), s...) }

// reading is a reader of such bytes; ok goes at the first thing that may not be.
type reading struct {
	b  []byte
	ok bool
}

func (r *reading) number(least, most int64) int64 {
	if !r.ok || len(r.b) < 8 {
		r.ok = false
		return 0
	}
	v := int64(binary.BigEndian.Uint64(r.b))
	r.b = r.b[8:]
	if v < least || v > most {
		r.ok = false
		return 0
	}
	return v
}

func (r *reading) text(most int64) string {
	n := r.number(0, most)
	if !r.ok || n > int64(len(r.b)) {
		r.ok = false
		return ""
	}
	s := string(r.b[:n])
	r.b = r.b[n:]
	return s
}

func (r *reading) node() one {
	var o one
	free := func() int64 { return r.number(math.MinInt64, math.MaxInt64) }
	small := func() int { return int(r.number(0, math.MaxInt32)) }
	o.path = r.text(200)
	o.Made, o.Changed = free(), free()
	o.Version, o.Kids = small(), small()
	o.Owner, o.Next = free(), small()
	o.Data = r.text(1000)
	for n := r.number(0, 500); n > 0 && r.ok; n-- {
		o.Names = append(o.Names, r.text(40))
	}
	o.Length, o.Count = len(o.Data), len(o.Names)
	return o
}

var pathForm = regexp.MustCompile(`^(/[!-.0-~]{1,40}){1,8}$`)

func goodPath(p string) bool {
	for _, name := range strings.Split(p, "/") {
		if name == "." || name == ".." {
			return false
		}
	}
	return len(p) <= 200 && pathForm.MatchString(p)
}

// wantGet tells what Get answers, by the chapter's words: each path and each Name is held against all nodes.
func wantGet(b []byte, room int) ([]one, api.Errno) {
	if room < 1 || room > 500 {
		return nil, api.EARG
	}
	r := &reading{b: b, ok: true}
	var list []one
	for n := r.number(0, 500); n > 0 && r.ok; n-- {
		list = append(list, r.node())
	}
	if !r.ok || len(r.b) > 0 || !aTree(list) {
		return nil, api.EFORM
	}
	if len(list) > room {
		return nil, api.ELIMIT
	}
	return list, api.OK
}

// aTree tells whether nodes are one.
func aTree(list []one) bool {
	under := map[string][]string{}
	at := map[string]one{}
	for i, o := range list {
		if !goodPath(o.path) || i > 0 && list[i-1].path >= o.path {
			return false
		}
		at[o.path] = o
		if cut := strings.LastIndex(o.path, "/"); cut > 0 {
			under[o.path[:cut]] = append(under[o.path[:cut]], o.path[cut+1:])
		}
	}
	for p := range under {
		if o, there := at[p]; !there || o.Owner != 0 {
			return false
		}
	}
	for p, o := range at {
		sort.Strings(under[p])
		if fmt.Sprintf("%q", under[p]) != fmt.Sprintf("%q", o.Names) {
			return false
		}
	}
	return true
}

// nodesOf tells what a tree has, in its order.
func nodesOf(x *tree.Tree) []one {
	var list []one
	for _, p := range x.Paths() {
		n, _ := x.Node(p)
		list = append(list, one{p, n})
	}
	return list
}

// tell tells nodes in a text.
func tell(list []one) string {
	var s strings.Builder
	for _, o := range list {
		fmt.Fprintf(&s, "%q %+v %q %d %q\n", o.path, o.Stat, o.Data, o.Next, o.Names)
	}
	return s.String()
}

// holdGet holds Get of b against the model, and tells its error.
func holdGet(t *testing.T, what string, b []byte, room int) api.Errno {
	t.Helper()
	want, e := wantGet(b, room)
	x, got := Get(b, room)
	if got != e || (x != nil) != (e == api.OK) {
		t.Fatalf("%s: Get with room %d: %d, %v; want %d\n%x", what, room, got, x != nil, e, b)
	}
	if e != api.OK {
		return e
	}
	if tell(nodesOf(x)) != tell(want) || x.Len() != len(want) {
		t.Fatalf("%s: Get tells\n%swant\n%s", what, tell(nodesOf(x)), tell(want))
	}
	if again := Put(x); string(again) != string(b) {
		t.Fatalf("%s: Put of what Get tells: %x, want %x", what, again, b)
	}
	return e
}

// laid makes a tree of nodes as they are.
func laid(t *testing.T, room int, list ...one) *tree.Tree {
	t.Helper()
	x, e := tree.New(room)
	if e != api.OK {
		t.Fatalf("New(%d): %d", room, e)
	}
	for _, o := range list {
		if e := x.Load(o.path, o.Node); e != api.OK {
			t.Fatalf("Load %q: %d", o.path, e)
		}
	}
	return x
}

// full makes a node of which no field is like another.
func full(p string, names ...string) one {
	return one{p, stat.Node{Stat: api.Stat{Made: 11, Changed: 12, Version: 13, Kids: 14, Length: 5, Count: len(names)},
		Data: "x\xff\x00é", Next: 16, Names: names}}
}

// plain makes a node that has Names alone.
func plain(p string, names ...string) one {
	return one{p, stat.Node{Stat: api.Stat{Count: len(names)}, Names: names}}
}

// owned makes a node of an Owner's.
func owned(p string, owner int64, names ...string) one {
	o := plain(p, names...)
	o.Owner = owner
	return o
}
