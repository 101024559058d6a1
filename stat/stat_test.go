package stat

import (
	"bytes"
	"encoding/binary"
	"fmt"
	"math"
	"math/rand"
	"slices"
	"strconv"
	"strings"
	"testing"
	"unsafe"

	"aviary/api"
	"aviary/pack"
)

// top is the number behind which Version, Kids and Next do not count on.
const top = 2147483647

// whole makes a node, new each time, of which no field is like another.
func whole() Node {
	return Node{Stat: api.Stat{Made: 11, Changed: 12, Version: 13, Kids: 14, Owner: 15, Length: 5, Count: 3},
		Data: "x\xff\x00é", Next: 16, Names: []string{"b", "d", "f"}}
}

// fill makes a text of n bytes.
func fill(n int) string { return strings.Repeat("x", n) }

// names makes n Names that rise.
func names(n int) []string {
	var list []string
	for i := range n {
		list = append(list, fmt.Sprintf("n%05d", i))
	}
	return list
}

// named makes a node with these Names, at the end of a list with no spare room.
func named(list ...string) Node {
	n := whole()
	n.Names, n.Count = slices.Clip(slices.Clone(list)), len(list)
	return n
}

// tell tells every field by its own name, a list by its items.
func tell(n Node) string {
	return fmt.Sprintf("%d %d %d %d %d %d %d %q %d %q", n.Stat.Made, n.Stat.Changed, n.Stat.Version, n.Stat.Kids, n.Stat.Owner,
		n.Stat.Length, n.Stat.Count, n.Data, n.Next, append([]string{}, n.Names...))
}

// want holds a node against another one, field by field.
func want(t testing.TB, what string, n, w Node) {
	t.Helper()
	if tell(n) != tell(w) {
		t.Errorf("%s: %s, want %s", what, tell(n), tell(w))
	}
}

// numbers writes numbers by the library's own rule.
func numbers(b []byte, list ...int64) []byte {
	for _, v := range list {
		b = binary.BigEndian.AppendUint64(b, uint64(v))
	}
	return b
}

// text writes a text by the library's own rule.
func text(b []byte, s string) []byte { return append(numbers(b, int64(len(s))), s...) }

// plain writes a node by the promise's words, whether it may be got or not.
func plain(n Node) []byte {
	b := numbers(nil, n.Stat.Made, n.Stat.Changed, int64(n.Stat.Version), int64(n.Stat.Kids), n.Stat.Owner, int64(n.Next))
	b = numbers(text(b, n.Data), int64(len(n.Names)))
	for _, name := range n.Names {
		b = text(b, name)
	}
	return b
}

// refused asks that Get answers false, and nothing else.
func refused(t testing.TB, what string, b []byte) {
	t.Helper()
	if n, ok := Get(pack.Read(b)); ok || tell(n) != tell(Node{}) {
		t.Errorf("%s: %v, %.200s is got", what, ok, tell(n))
	}
}

// got asks that Get answers that node, Length and Count by its Data and Names, and reads nothing behind it.
func got(t testing.TB, what string, n Node) {
	t.Helper()
	n.Length, n.Count = len(n.Data), len(n.Names)
	r := pack.Read(numbers(plain(n), -5))
	x, ok := Get(r)
	if !ok || tell(x) != tell(n) {
		t.Errorf("%s: %v, %.200s is got", what, ok, tell(x))
	}
	if r.Bad() || r.End() || r.I64() != -5 || !r.End() {
		t.Errorf("%s: what stands behind it was read, or a byte of its own was not", what)
	}
}

// good are nodes that can be got.
func good() map[string]Node {
	const least, great = math.MinInt64, math.MaxInt64
	long := whole()
	long.Data, long.Names = fill(1000), []string{"", fill(39), fill(40), "y"}
	full := whole()
	full.Names = names(500)
	most := Node{Data: strings.Repeat("\xff", api.MaxData), Next: top, Stat: api.Stat{Made: great, Changed: great, Version: top, Kids: top, Owner: great}}
	for i := range api.MaxNodes {
		most.Names = append(most.Names, strings.Repeat("\xff", api.MaxName-5)+fmt.Sprintf("%05d", i))
	}
	return map[string]Node{
		"nothing at all":         {},
		"an ordinary one":        whole(),
		"a new one":              New(5, 0, "ab"),
		"no Names":               named(),
		"one Name":               named("a"),
		"a Name of no letters":   named(""),
		"and others behind it":   named("", "\x00", "\x00\x00", "a"),
		"Names by their bytes":   named("B", "a", "b", "z", "é", "\xff"),
		"a Name ahead of longer": named("a", "a\x00", "aa", "ab", "abc", "b"),
		"the longest texts":      long,
		"the most Names":         full,
		"the most of everything": most,
		"numbers below 0":        {Stat: api.Stat{Made: least, Changed: -1, Owner: least}},
		"great numbers":          {Stat: api.Stat{Made: great, Changed: great - 1, Version: top, Kids: top, Owner: great}, Next: top},
		"numbers at 2^32":        {Stat: api.Stat{Made: 1 << 32, Changed: -1 << 32, Owner: 1<<32 + 1}},
		"Data of no text":        {Data: "\x00\xff\xfe\x80\n"},
	}
}

// bad are nodes of which one thing alone may not be got.
func bad() map[string]Node {
	with := func(change func(n *Node)) Node {
		n := whole()
		change(&n)
		return n
	}
	list := map[string]Node{
		"Data too long":                with(func(n *Node) { n.Data = fill(1001) }),
		"Data far too long":            with(func(n *Node) { n.Data = fill(1 << 17) }),
		"Data of too many bytes":       with(func(n *Node) { n.Data = strings.Repeat("é", 501) }),
		"a Name too long":              named(fill(41)),
		"the first Name too long":      named(fill(41), "y"),
		"the last Name too long":       named("a", "b", fill(41)),
		"a Name far too long":          named("a", fill(1<<16), "y"),
		"a Name of too many bytes":     named(strings.Repeat("é", 20) + "x"),
		"a Name too many":              named(names(501)...),
		"very many Names":              named(names(5000)...),
		"two alike":                    named("a", "a"),
		"two of no letters":            named("", ""),
		"the first two alike":          named("a", "a", "b"),
		"the last two alike":           named("a", "b", "b"),
		"alike, one between them":      named("a", "b", "a"),
		"two that fall":                named("b", "a"),
		"the first two fall":           named("b", "a", "c"),
		"the last two fall":            named("a", "c", "b"),
		"all fall":                     named("c", "b", "a"),
		"one of no letters behind":     named("a", ""),
		"a longer one ahead":           named("ab", "a"),
		"they fall by their bytes":     named("a", "B"),
		"they fall by bytes above 127": named("\xff", "a"),
		"the last of many alike":       named(append(names(499), "n00498")...),
		"the last of many falls":       named(append(names(499), "n00497x")...),
	}
	for _, v := range []int{-1, math.MinInt, top + 1, top + 2, 1<<32 - 1, 1 << 32, 1<<32 + 1, -1 << 32, math.MaxInt} {
		at := " of " + strconv.Itoa(v)
		list["Version"+at] = with(func(n *Node) { n.Version = v })
		list["Kids"+at] = with(func(n *Node) { n.Kids = v })
		list["Next"+at] = with(func(n *Node) { n.Next = v })
	}
	return list
}

// P10.1: the chapter's example.
func TestExample(t *testing.T) {
	if n := New(5, 0, "ab"); n.Made != 5 || n.Length != 2 {
		t.Errorf("%+v", n)
	}
}

// The chapter's Ways: api's Stat is embedded, its fields are the node's own.
func TestEmbedded(t *testing.T) {
	n := Node{Stat: api.Stat{Made: 1, Changed: 2, Version: 3, Kids: 4, Owner: 5, Length: 6, Count: 7}}
	if fmt.Sprint(n.Made, n.Changed, n.Version, n.Kids, n.Owner, n.Length, n.Count) != "1 2 3 4 5 6 7" {
		t.Errorf("%+v", n)
	}
	// A node that has this one embedded has its calls.
	var outer struct{ Node }
	outer.Node = New(1, 2, "a")
	outer.Write(3, "bc")
	if !outer.Add("x") || !outer.Add("y") || !outer.Remove("x") || !outer.Ephemeral() {
		t.Errorf("%+v", outer)
	}
	want(t, "embedded", outer.Node, Node{Stat: api.Stat{Made: 1, Changed: 3, Version: 1, Kids: 3, Owner: 2, Length: 2, Count: 1}, Data: "bc", Next: 2, Names: []string{"y"}})
}

// P10.1: New, every field of it.
func TestNew(t *testing.T) {
	for _, zxid := range []int64{0, 1, 5, -1, top, top + 1, 1 << 32, math.MinInt64, math.MaxInt64} {
		for _, owner := range []int64{0, 1, 7, -1, -7, 1 << 32, -1 << 32, math.MinInt64, math.MaxInt64} {
			for _, data := range []string{"", "a", "ab", "é", "\x00", "\xff\xfe", "a\x00b\xff", fill(1000), fill(1001), fill(1 << 17)} {
				n := New(zxid, owner, data)
				if n.Made != zxid || n.Changed != zxid || n.Version != 0 || n.Kids != 0 || n.Owner != owner || n.Length != len(data) || n.Count != 0 {
					t.Errorf("New(%d, %d, %.20q): %+v", zxid, owner, data, n.Stat)
				}
				if n.Data != data || n.Next != 0 || len(n.Names) != 0 {
					t.Errorf("New(%d, %d, %.20q): %.20q, Next %d, %d Names", zxid, owner, data, n.Data, n.Next, len(n.Names))
				}
			}
		}
	}
}

// P10.1: Write: what changes, and what stays.
func TestWrite(t *testing.T) {
	for _, zxid := range []int64{0, 1, 12, 99, -1, 1 << 32, math.MinInt64, math.MaxInt64} {
		for _, data := range []string{"", "a", "xyz", whole().Data, "\x00\xff", fill(1000), fill(1001), fill(1 << 17)} {
			n, w := whole(), whole()
			n.Write(zxid, data)
			w.Data, w.Changed, w.Version, w.Length = data, zxid, 14, len(data)
			want(t, fmt.Sprintf("Write(%d, %.20q)", zxid, data), n, w)
		}
	}
}

// P10.1: Write behind Write, and Data whose Length was told wrong ahead of it.
func TestWriteInTurn(t *testing.T) {
	n := New(1, 0, "a")
	for i := 1; i <= 300; i++ {
		data := fill(i % 7)
		n.Write(int64(1000-i), data)
		want(t, "Write in turn", n, Node{Stat: api.Stat{Made: 1, Changed: int64(1000 - i), Version: i, Length: i % 7}, Data: data})
	}
	n.Length = -9
	n.Write(1, n.Data)
	if n.Length != len(n.Data) {
		t.Errorf("Length is %d, not %d", n.Length, len(n.Data))
	}
}

// counts are numbers, and what one more of each is.
var counts = map[int]int{
	math.MinInt: math.MinInt + 1, -1 << 32: -1<<32 + 1, -2147483649: -2147483648, -2147483648: -2147483647, -2: -1, -1: 0, 0: 1, 1: 2, 7: 8,
	65535: 65536, 2147483645: 2147483646, 2147483646: 2147483647, 2147483647: 2147483647, 2147483648: 2147483648, 2147483649: 2147483649,
	1<<32 - 1: 1<<32 - 1, 1 << 32: 1 << 32, math.MaxInt - 1: math.MaxInt - 1, math.MaxInt: math.MaxInt,
}

// P10.1: "one more", of Version, of Kids and of Next.
func TestOneMore(t *testing.T) {
	for v, more := range counts {
		n, w := whole(), whole()
		n.Version, w.Version = v, more
		n.Write(w.Changed, w.Data)
		want(t, fmt.Sprintf("Write, Version %d", v), n, w)

		for next, nextMore := range counts {
			n, w = named("b"), named("a", "b")
			n.Kids, w.Kids, n.Next, w.Next = v, more, next, nextMore
			if !n.Add("a") {
				t.Errorf("Add: false")
			}
			want(t, fmt.Sprintf("Add, Kids %d, Next %d", v, next), n, w)
		}

		n, w = named("a", "b"), named("b")
		n.Kids, w.Kids, n.Next, w.Next = v, more, v, v
		if !n.Remove("a") {
			t.Errorf("Remove: false")
		}
		want(t, fmt.Sprintf("Remove, Kids and Next %d", v), n, w)
	}
}

// P10.1: Write leaves Kids and Next where they are, Add and Remove leave Version there; a call that answers false all of them.
func TestCountsStay(t *testing.T) {
	for v := range counts {
		n := named("a", "b")
		n.Version, n.Kids, n.Next = v, v, v
		w := n
		if n.Add("a") || n.Remove("c") {
			t.Errorf("Add of one that is there, or Remove of one that is not: true")
		}
		want(t, "false", n, w)
		n.Add("c")
		n.Remove("b")
		if n.Version != v {
			t.Errorf("Version %d is %d behind Add and Remove", v, n.Version)
		}
		n = w
		n.Write(1, "")
		if n.Kids != v || n.Next != v {
			t.Errorf("Kids and Next %d are %d and %d behind Write", v, n.Kids, n.Next)
		}
	}
}

// P10.1: the count goes on to its end, and stays there.
func TestCountsEnd(t *testing.T) {
	n := named()
	n.Version, n.Kids, n.Next = top-2, top-3, top-1
	var told []string
	for range 3 {
		n.Write(1, "")
		n.Add("a")
		n.Remove("a")
		told = append(told, fmt.Sprint(top-n.Version, top-n.Kids, top-n.Next))
	}
	if s := strings.Join(told, ", "); s != "1 1 0, 0 0 0, 0 0 0" {
		t.Errorf("below the greatest: %s", s)
	}
}

// P10.1: Add: a name that is not there, at each place.
func TestAdd(t *testing.T) {
	for _, c := range []struct{ have, name, then string }{
		{"", "a", "a"}, {"", "\x00", "\x00"}, {"", fill(40), fill(40)}, {"", fill(41), fill(41)},
		{"b", "a", "a b"}, {"b", "c", "b c"}, {"b", "b\x00", "b b\x00"}, {"bb", "b", "b bb"}, {"b", "B", "B b"}, {"b", "\xff", "b \xff"},
		{"b d f", "a", "a b d f"}, {"b d f", "c", "b c d f"}, {"b d f", "e", "b d e f"}, {"b d f", "g", "b d f g"},
		{"b d f", "dd", "b d dd f"}, {"b d f", "/a/ b", "/a/ b b d f"}, {"b d f", "é", "b d f é"}, {"a \xff", "é", "a é \xff"},
		{"10 2 9", "1", "1 10 2 9"}, {"10 2 9", "11", "10 11 2 9"}, {"10 2 9", "99", "10 2 9 99"},
	} {
		n := named(strings.Fields(c.have)...)
		w := n
		w.Names, w.Count, w.Kids, w.Next = nil, n.Count+1, n.Kids+1, n.Next+1
		ok := n.Add(c.name)
		if s := strings.Join(n.Names, " "); !ok || s != c.then || len(n.Names) != w.Count || !slices.IsSorted(n.Names) {
			t.Errorf("Add(%q) to %q: %v, %q", c.name, c.have, ok, s)
		}
		n.Names = nil
		want(t, fmt.Sprintf("Add(%q) to %q", c.name, c.have), n, w)
	}
	n := named("b", "d")
	if !n.Add("") || !slices.Equal(n.Names, []string{"", "b", "d"}) || n.Add("") {
		t.Errorf("Add of no letters: %q", n.Names)
	}
}

// P10.1: Add: a name that is there, at each place: nothing changes.
func TestAddAgain(t *testing.T) {
	for _, list := range [][]string{{"a"}, {""}, {"", "a"}, {"a", "b"}, {"b", "d", "f"}, {"a", "a\x00", "aa", "é", "\xff"}, names(500)} {
		for _, name := range list {
			n := named(list...)
			n.Count = 99 // as told, until a name comes
			w := n
			if n.Add(name) || n.Add(strings.Clone(name)) {
				t.Errorf("Add(%q) again: true", name)
			}
			want(t, fmt.Sprintf("Add(%q) again", name), n, w)
		}
	}
}

// P10.1: Remove: a name that is there, at each place.
func TestRemove(t *testing.T) {
	for _, list := range [][]string{{"a"}, {""}, {"", "a"}, {"a", "b"}, {"b", "d", "f"}, {"a", "a\x00", "aa", "é", "\xff"}, names(9), names(500)} {
		for i, name := range list {
			n := named(list...)
			n.Count = 99
			w := n
			w.Names, w.Count, w.Kids = slices.Concat(list[:i], list[i+1:]), len(list)-1, n.Kids+1
			if !n.Remove(strings.Clone(name)) {
				t.Errorf("Remove(%q): false", name)
			}
			want(t, fmt.Sprintf("Remove(%q)", name), n, w)
			if n.Remove(name) {
				t.Errorf("Remove(%q) again: true", name)
			}
			want(t, fmt.Sprintf("Remove(%q) again", name), n, w)
		}
	}
}

// P10.1: Remove: a name that is not there: nothing changes.
func TestRemoveNone(t *testing.T) {
	for _, list := range [][]string{nil, {}, {"b"}, {"b", "d"}, {"b", "d", "f"}, {"bb", "dd"}} {
		for _, name := range []string{"", "\x00", "a", "B", "b\x00", "c", "e", "g", "é", "\xff", "b d", "bbb", fill(41)} {
			n := named(list...)
			n.Count = 99
			w := n
			if n.Remove(name) {
				t.Errorf("Remove(%q) of %q: true", name, list)
			}
			want(t, fmt.Sprintf("Remove(%q) of %q", name, list), n, w)
		}
	}
}

// P10.1: in whatever order names come and go, they rise; more of them than MaxNodes too.
func TestNamesRise(t *testing.T) {
	list := names(700)
	for seed := range int64(3) {
		luck := rand.New(rand.NewSource(seed))
		var n Node
		for i, k := range luck.Perm(len(list)) {
			if !n.Add(list[k]) || n.Add(list[k]) || n.Count != i+1 || n.Kids != i+1 || n.Next != i+1 || !slices.IsSorted(n.Names) {
				t.Fatalf("Add(%q): %d, %d, %d of %d", list[k], n.Count, n.Kids, n.Next, i+1)
			}
		}
		if !slices.Equal(n.Names, list) {
			t.Errorf("%d Names that are not those that were added", len(n.Names))
		}
		for i, k := range luck.Perm(len(list)) {
			if !n.Remove(list[k]) || n.Remove(list[k]) || n.Count != len(list)-i-1 || n.Kids != len(list)+i+1 || n.Next != len(list) || !slices.IsSorted(n.Names) {
				t.Fatalf("Remove(%q): %d, %d, %d", list[k], n.Count, n.Kids, n.Next)
			}
		}
		if len(n.Names) != 0 || n.Count != 0 {
			t.Errorf("%d Names are left", len(n.Names))
		}
	}
}

// R1: of Names that do not rise nothing is promised, but that each call ends.
func TestNamesThatFall(t *testing.T) {
	for _, list := range [][]string{{"b", "a"}, {"a", "a"}, {"", ""}, {"c", "a", "b"}, {"b", "a", "b", "a"}, slices.Repeat([]string{"x"}, 50)} {
		for _, name := range []string{"", "a", "b", "c", "x", "y"} {
			n := named(list...)
			n.Add(name)
			n.Remove(name)
			n.Write(1, name)
			if b := Put(n); !bytes.Equal(b, plain(n)) || !Same(n, n) {
				t.Errorf("Names that do not rise: %x", b)
			}
		}
	}
}

// P10.1: Ephemeral, by Owner alone.
func TestEphemeral(t *testing.T) {
	for owner, w := range map[int64]bool{0: false, 1: true, -1: true, 2: true, 1 << 32: true, -1 << 32: true, math.MinInt64: true, math.MaxInt64: true} {
		n, all := New(1, owner, ""), whole()
		all.Owner = owner
		only := Node{Stat: api.Stat{Owner: owner}}
		if n.Ephemeral() != w || all.Ephemeral() != w || only.Ephemeral() != w {
			t.Errorf("Owner %d: %v, %v, %v", owner, n.Ephemeral(), all.Ephemeral(), only.Ephemeral())
		}
		before := all
		all.Ephemeral()
		want(t, "Ephemeral", all, before)
	}
}

// P10.1: Put's bytes, written out.
func TestPut(t *testing.T) {
	eight := func(last ...byte) []byte { return append(make([]byte, 8-len(last)), last...) }
	minus := func(last byte) []byte { return append(bytes.Repeat([]byte{255}, 7), last) }
	for name, c := range map[string]struct {
		n    Node
		want [][]byte
	}{
		"nothing at all": {Node{}, [][]byte{make([]byte, 64)}},
		"a new one":      {New(5, -3, "ab"), [][]byte{eight(5), eight(5), eight(), eight(), minus(253), eight(), eight(2), []byte("ab"), eight()}},
		"several Names": {Node{Stat: api.Stat{Made: 258, Changed: 2, Version: 3, Kids: 4, Owner: 5, Length: 77, Count: 78}, Data: "x\xff\x00", Next: 6, Names: []string{"", "p", "qr"}}, [][]byte{
			eight(1, 2), eight(2), eight(3), eight(4), eight(5), eight(6), eight(3), {120, 255, 0},
			eight(3), eight(), eight(1), []byte("p"), eight(2), []byte("qr")}},
		"numbers at their ends": {Node{Stat: api.Stat{Made: math.MinInt64, Changed: math.MaxInt64, Version: -2, Kids: top, Owner: math.MinInt64 + 1}, Next: top + 1}, [][]byte{
			{128, 0, 0, 0, 0, 0, 0, 0}, {127, 255, 255, 255, 255, 255, 255, 255}, minus(254), eight(127, 255, 255, 255),
			{128, 0, 0, 0, 0, 0, 0, 1}, eight(128, 0, 0, 0), eight(), eight()}},
	} {
		if b := Put(c.n); !bytes.Equal(b, slices.Concat(c.want...)) {
			t.Errorf("%s: %v", name, b)
		}
	}
	for _, list := range []map[string]Node{good(), bad()} {
		for name, n := range list {
			if b := Put(n); !bytes.Equal(b, plain(n)) {
				t.Errorf("%s: %d bytes, not %d", name, len(b), len(plain(n)))
			}
		}
	}
}

// P10.1: Length and Count are not among Put's bytes.
func TestPutTellsNoLengths(t *testing.T) {
	n := whole()
	n.Length, n.Count = -7, 1<<40
	if !bytes.Equal(Put(n), plain(whole())) {
		t.Errorf("%x", Put(n))
	}
}

// P10.1: each number stands in its own place.
func TestPlaces(t *testing.T) {
	for i, change := range []func(n *Node){
		func(n *Node) { n.Stat.Made = 7 }, func(n *Node) { n.Stat.Changed = 7 }, func(n *Node) { n.Stat.Version = 7 },
		func(n *Node) { n.Stat.Kids = 7 }, func(n *Node) { n.Stat.Owner = 7 }, func(n *Node) { n.Next = 7 },
	} {
		var n Node
		change(&n)
		b := make([]byte, 64)
		b[8*i+7] = 7
		if !bytes.Equal(Put(n), b) {
			t.Errorf("number %d: %v is put", i, Put(n))
		}
		x, ok := Get(pack.Read(b))
		if !ok {
			t.Errorf("number %d: false", i)
		}
		want(t, "number "+strconv.Itoa(i), x, n)
	}
}

// P10.1: what was put is got, and what stands behind it stays unread.
func TestGet(t *testing.T) {
	for name, n := range good() {
		got(t, name, n)
		r := pack.Read(Put(n))
		if _, ok := Get(r); !ok || !r.End() {
			t.Errorf("%s: %v, or it is not read to its end", name, ok)
		}
	}
	for b := range 256 {
		s := string([]byte{byte(b)})
		n := named("", s, s+"\x00", s+s+s)
		n.Data = s + s
		got(t, "texts of the byte "+strconv.Itoa(b), n)
	}
	for size := range 1001 {
		n := whole()
		n.Data = fill(size)
		got(t, strconv.Itoa(size)+" bytes of Data", n)
	}
	for size := range 501 {
		got(t, strconv.Itoa(size)+" Names", named(names(size)...))
	}
	for size := range 41 {
		got(t, "a Name of "+strconv.Itoa(size)+" bytes", named(fill(size)))
	}
}

// P10.1: nodes one behind the other, by one Reader.
func TestGetInTurn(t *testing.T) {
	var b []byte
	var list []Node
	for _, n := range good() {
		b, list = append(b, Put(n)...), append(list, n)
	}
	r := pack.Read(b)
	for _, n := range list {
		x, ok := Get(r)
		if !ok {
			t.Fatalf("it is not got")
		}
		n.Length, n.Count = len(n.Data), len(n.Names)
		want(t, "in turn", x, n)
	}
	if !r.End() {
		t.Errorf("more is left")
	}
	if n, ok := Get(r); ok || tell(n) != tell(Node{}) {
		t.Errorf("behind the last one: %v, %s", ok, tell(n))
	}
}

// P10.1: what may not be.
func TestGetBad(t *testing.T) {
	for name, n := range bad() {
		refused(t, name, plain(n))
		refused(t, name+", more behind", slices.Concat(plain(n), make([]byte, 5000)))
	}
}

// P10.1: Version, Kids and Next, from 0 to 2147483647, each by itself.
func TestGetNumbers(t *testing.T) {
	for name, place := range map[string]int{"Version": 16, "Kids": 24, "Next": 40} {
		for _, v := range []int64{math.MinInt64, -1<<32 + 1, -1 << 32, -2147483648, -2, -1, 0, 1, 2, 65536, 2147483646, 2147483647, 2147483648, 2147483649,
			1<<32 - 1, 1 << 32, 1<<32 + 1, 1 << 62, math.MaxInt64} {
			b := plain(whole())
			binary.BigEndian.PutUint64(b[place:], uint64(v))
			if v < 0 || v > 2147483647 {
				refused(t, fmt.Sprint(name, " ", v), b)
				continue
			}
			w := whole()
			*map[string]*int{"Version": &w.Version, "Kids": &w.Kids, "Next": &w.Next}[name] = int(v)
			n, ok := Get(pack.Read(b))
			if !ok {
				t.Errorf("%s %d: false", name, v)
			}
			want(t, fmt.Sprint(name, " ", v), n, w)
		}
	}
	for _, v := range []int64{math.MinInt64, -1 << 32, -1, 0, 1, top, top + 1, 1 << 32, math.MaxInt64} {
		n := whole()
		n.Made, n.Changed, n.Owner = v, ^v, v^7
		got(t, "Made, Changed and Owner at "+strconv.FormatInt(v, 10), n)
	}
}

// P10.1: how many bytes and how many Names there are: such numbers as tell no node.
func TestGetCounts(t *testing.T) {
	n := named("p", "qr")
	n.Data = "xyz"
	// The places of the numbers of Data's bytes, of Names, of the Names' bytes.
	for place, right := range map[int]int64{48: 3, 59: 2, 67: 1, 76: 2} {
		for _, v := range []int64{math.MinInt64, -1 << 32, -1<<32 + 1, -1<<32 + 2, -1<<32 + 3, -3, -2, -1, 41, 501, 1001, 1 << 31, 1 << 32,
			1<<32 + 1, 1<<32 + 2, 1<<32 + 3, 1 << 62, math.MaxInt64 - 1, math.MaxInt64} {
			b := plain(n)
			if w := int64(binary.BigEndian.Uint64(b[place:])); w != right {
				t.Fatalf("at %d stands %d, not %d", place, w, right)
			}
			binary.BigEndian.PutUint64(b[place:], uint64(v))
			refused(t, fmt.Sprint(v, " at ", place), b)
			if place != 48 || v < 0 || v > 1000 { // so many bytes of Data may be there
				refused(t, fmt.Sprint(v, " at ", place, ", more behind"), slices.Concat(b, make([]byte, 1<<16)))
			}
		}
	}
}

// P10.1: the bytes of a node, cut at every place.
func TestGetCut(t *testing.T) {
	refused(t, "nil", nil)
	refused(t, "an empty list", []byte{})
	for name, n := range good() {
		b := plain(n)
		for k := range b {
			// Of the longest, some places stand for the others: each cut is read from the first byte on.
			if len(b) < 3000 || k < 300 || k > len(b)-100 || k%97 == 0 {
				refused(t, fmt.Sprint(name, ", cut at ", k), b[:k])
			}
		}
	}
}

// P10.1: a Reader that is Bad has no node, whatever stands there.
func TestGetOfBadReader(t *testing.T) {
	r := pack.Read(slices.Concat(numbers(nil, -1), plain(whole()), plain(whole())))
	r.Count(5)
	if n, ok := Get(r); ok || tell(n) != tell(Node{}) || !r.Bad() {
		t.Errorf("%v, %s", ok, tell(n))
	}
	// What was not there makes it Bad: nothing is read from then on.
	n := whole()
	n.Version = -1
	for _, b := range [][]byte{plain(n), plain(whole())[:90]} {
		r = pack.Read(b)
		if _, ok := Get(r); ok || !r.Bad() {
			t.Errorf("%v, Bad is %v", ok, r.Bad())
		}
		if n, ok := Get(r); ok || tell(n) != tell(Node{}) {
			t.Errorf("again: %v, %s", ok, tell(n))
		}
	}
}

// parts are the ways in which two nodes can part, one field each.
var parts = map[string]func(n *Node){
	"Made":               func(n *Node) { n.Made++ },
	"Made, far":          func(n *Node) { n.Made += 1 << 32 },
	"Changed":            func(n *Node) { n.Changed-- },
	"Changed, far":       func(n *Node) { n.Changed += 1 << 32 },
	"Version":            func(n *Node) { n.Version++ },
	"Version, far":       func(n *Node) { n.Version += 1 << 32 },
	"Kids":               func(n *Node) { n.Kids = -1 },
	"Kids, far":          func(n *Node) { n.Kids += 1 << 32 },
	"Owner":              func(n *Node) { n.Owner = 0 },
	"Owner, far":         func(n *Node) { n.Owner += 1 << 32 },
	"Owner below 0":      func(n *Node) { n.Owner = -n.Owner },
	"Length":             func(n *Node) { n.Length++ },
	"Length, far":        func(n *Node) { n.Length += 1 << 32 },
	"Count":              func(n *Node) { n.Count-- },
	"Count, far":         func(n *Node) { n.Count += 1 << 32 },
	"Data":               func(n *Node) { n.Data = "X" + n.Data[1:] },
	"Data's last byte":   func(n *Node) { n.Data = n.Data[:len(n.Data)-1] + "\x00" },
	"Data, longer":       func(n *Node) { n.Data += "\x00" },
	"no Data":            func(n *Node) { n.Data = "" },
	"Next":               func(n *Node) { n.Next++ },
	"Next, far":          func(n *Node) { n.Next += 1 << 32 },
	"the first Name":     func(n *Node) { n.Names[0] = "" },
	"a Name":             func(n *Node) { n.Names[1] = "D" },
	"the last Name":      func(n *Node) { n.Names[2] += "\x00" },
	"the first is gone":  func(n *Node) { n.Names = n.Names[1:] },
	"the last is gone":   func(n *Node) { n.Names = n.Names[:2] },
	"a Name more":        func(n *Node) { n.Names = append(n.Names, "") },
	"no Names":           func(n *Node) { n.Names = nil },
	"the order of Names": func(n *Node) { slices.Reverse(n.Names) },
	"two Names in one":   func(n *Node) { n.Names = []string{"bd", "", "f"} },
}

// P10.1: Same: nodes that are alike, and such as part in one field alone.
func TestSame(t *testing.T) {
	if !Same(whole(), whole()) || !Same(Node{}, Node{}) || !Same(New(5, 1, "ab"), New(5, 1, "ab")) {
		t.Errorf("alike: false")
	}
	for name, change := range parts {
		a, b := whole(), whole()
		change(&a)
		if Same(a, whole()) || Same(whole(), a) {
			t.Errorf("they part in %s: true", name)
		}
		change(&b)
		if !Same(a, b) || !Same(a, a) {
			t.Errorf("another %s, in both: false", name)
		}
	}
	list := good()
	for a, x := range list {
		for b, y := range list {
			if Same(x, y) != (tell(x) == tell(y)) || (a == b) != Same(x, y) {
				t.Errorf("%s, and %s: %v", a, b, Same(x, y))
			}
		}
	}
}

// R4: nil and an empty list are one, spare room is none.
func TestSameNil(t *testing.T) {
	for _, x := range [][]string{nil, {}, names(3)[:0]} {
		a := Node{Names: x}
		if !Same(a, Node{}) || !Same(Node{}, a) || !bytes.Equal(Put(a), Put(Node{})) {
			t.Errorf("nil and empty Names: false")
		}
		if Same(a, Node{Names: []string{""}}) || Same(Node{Names: []string{""}}, a) {
			t.Errorf("no Names and one of no letters: true")
		}
		if a.Remove("n00000") || !a.Add("a") || !slices.Equal(a.Names, []string{"a"}) {
			t.Errorf("an empty list: %q", a.Names)
		}
	}
	n := whole()
	n.Names = append(n.Names, "spare")[:3]
	if !Same(n, whole()) || !bytes.Equal(Put(n), plain(whole())) {
		t.Errorf("spare room: false")
	}
}

// R4: no call changes a list that it is handed, its spare room included, and none keeps it.
func TestListsStay(t *testing.T) {
	room := []string{"b", "d", "f", "s1", "s2", "s3"}
	before := slices.Clone(room)
	for what, call := range map[string]func(n *Node){
		"Write": func(n *Node) { n.Write(1, "abc") },
		"Add": func(n *Node) {
			for _, name := range []string{"a", "b", "c", "e", "g", "f"} {
				n.Add(name)
			}
		},
		"one Add at the end": func(n *Node) { n.Add("g") },
		"Remove": func(n *Node) {
			for _, name := range []string{"a", "b", "f", "d"} {
				n.Remove(name)
			}
		},
		"one Remove at the end": func(n *Node) { n.Remove("f") },
		"one behind the other":  func(n *Node) { n.Remove("f"); n.Add("f"); n.Remove("b"); n.Add("g"); n.Add("b") },
		"Put, Same, Ephemeral":  func(n *Node) { Put(*n); Same(*n, *n); Same(whole(), *n); n.Ephemeral() },
		"answers of false":      func(n *Node) { n.Add("b"); n.Add("d"); n.Remove(""); n.Remove("z") },
	} {
		n := whole()
		n.Names = room[:3]
		call(&n)
		if !slices.Equal(room, before) {
			t.Fatalf("%s: what was handed in is %q", what, room)
		}
	}
	n := named()
	n.Names = room[:3]
	n.Add("e")
	w := slices.Clone(n.Names)
	clear(room)
	if !slices.Equal(n.Names, w) {
		t.Errorf("Add keeps the list: %q", n.Names)
	}
	room = slices.Clone(before)
	n.Names = room[:3]
	n.Remove("d")
	clear(room)
	if !slices.Equal(n.Names, []string{"b", "f"}) {
		t.Errorf("Remove keeps the list: %q", n.Names)
	}
}

// R4: copies of a node part when one of them changes; their lists share nothing, spare room included.
func TestCopiesPart(t *testing.T) {
	for what, call := range map[string]func(n *Node) bool{
		"Add at the front":     func(n *Node) bool { return n.Add("a") },
		"Add at the end":       func(n *Node) bool { return n.Add("z") },
		"Remove at the front":  func(n *Node) bool { return n.Remove("b") },
		"Remove in the middle": func(n *Node) bool { return n.Remove("d") },
		"Remove at the end":    func(n *Node) bool { return n.Remove("f") },
	} {
		n := named("d")
		n.Add("f")
		n.Add("b")
		n.Remove("c")
		one, two := n, n
		if !call(&one) || !call(&two) {
			t.Errorf("%s: false", what)
		}
		if !slices.Equal(n.Names, []string{"b", "d", "f"}) {
			t.Errorf("%s: the other one has %q", what, n.Names)
		}
		w := tell(two)
		clear(one.Names[:cap(one.Names)])
		clear(n.Names[:cap(n.Names)])
		if tell(two) != w {
			t.Errorf("%s: two copies share a list", what)
		}
		for _, s := range two.Names[len(two.Names):cap(two.Names)] {
			if s != "" {
				t.Errorf("%s: %q stands behind the Names", what, s)
			}
		}
	}
}

// R4: what Put answers is new memory each time, spare room too.
func TestPutMemory(t *testing.T) {
	for name, n := range good() {
		first, second := Put(n), Put(n)
		for _, c := range first[len(first):cap(first)] {
			if c != 0 {
				t.Errorf("%s: %d stands behind the bytes", name, c)
			}
		}
		clear(first[:cap(first)])
		clear(n.Names)
		if !bytes.Equal(second, plain(good()[name])) {
			t.Errorf("%s: two answers share memory, or one hangs on the Names", name)
		}
	}
}

// R4: Get changes no byte, spare room included; what it answers hangs on nothing.
func TestGetMemory(t *testing.T) {
	for name, n := range good() {
		n.Length, n.Count = len(n.Data), len(n.Names)
		room := slices.Concat(plain(n), bytes.Repeat([]byte{7}, 100))
		before := slices.Clone(room)
		r := pack.Read(room[:len(room)-100])
		first, ok1 := Get(r)
		second, ok2 := Get(pack.Read(room))
		if !bytes.Equal(room, before) {
			t.Errorf("%s: what was handed in was changed", name)
		}
		clear(room)
		for _, s := range first.Names[len(first.Names):cap(first.Names)] {
			if s != "" {
				t.Errorf("%s: %q stands behind the Names", name, s)
			}
		}
		clear(first.Names[:cap(first.Names)])
		if !ok1 || !ok2 || tell(second) != tell(n) {
			t.Errorf("%s: %v, %v, or an answer hangs on what was handed in, or on another answer", name, ok1, ok2)
		}
	}
}

// inside tells whether a text stands in another one's memory.
func inside(s, in string) bool {
	at, begin := uintptr(unsafe.Pointer(unsafe.StringData(s))), uintptr(unsafe.Pointer(unsafe.StringData(in)))
	return at >= begin && at < begin+uintptr(len(in))
}

// LANGUAGE 7: texts that are handed in are not kept: a short one may be a piece of a long one.
func TestTextsAreNotKept(t *testing.T) {
	long := strings.Repeat("abc", 1000)
	n := New(1, 0, long[3:6])
	if n.Data != "abc" || inside(n.Data, long) {
		t.Errorf("New keeps its text")
	}
	n.Write(1, long[6:10])
	if n.Data != "abca" || inside(n.Data, long) {
		t.Errorf("Write keeps its text")
	}
	n.Add(long[1:3])
	n.Add(long[:2])
	n.Add(long[2:4])
	for _, name := range n.Names {
		if inside(name, long) {
			t.Errorf("Add keeps its text")
		}
	}
	bytesOf := []byte("xyz")
	n.Write(1, unsafe.String(&bytesOf[0], 3))
	n.Add(unsafe.String(&bytesOf[0], 3))
	clear(bytesOf)
	if n.Data != "xyz" || !slices.Equal(n.Names, []string{"ab", "bc", "ca", "xyz"}) {
		t.Errorf("%q, %q", n.Data, n.Names)
	}
}

// R5: the same calls, the same answers; and no node knows of another.
func TestSameCallsSameAnswers(t *testing.T) {
	a, b, other := New(1, 2, "x"), New(1, 2, "x"), New(9, 9, "y")
	for i := range 200 {
		name := strconv.Itoa(i * 37 % 20)
		other.Add("o" + name)
		other.Write(77, "z")
		if i%3 == 0 {
			a.Remove(name)
			b.Remove(name)
		} else {
			a.Add(name)
			b.Add(name)
		}
		if !Same(a, b) || tell(a) != tell(b) || !bytes.Equal(Put(a), Put(b)) {
			t.Fatalf("%s, and %s", tell(a), tell(b))
		}
	}
}

// model is a node by the promise's words: a set of names, and numbers that count far.
type model struct {
	made, changed, owner int64
	version, kids, next  int64
	data                 string
	names                map[string]bool
}

func (m *model) tell() string {
	list := []string{}
	for name := range m.names {
		list = append(list, name)
	}
	slices.Sort(list)
	return fmt.Sprintf("%d %d %d %d %d %d %d %q %d %q", m.made, m.changed, m.version, m.kids, m.owner, len(m.data), len(list), m.data, m.next, list)
}

// step does one thing to a node and to the model, and tells what each answered.
func step(n *Node, m *model, kind, arg byte) (bool, bool) {
	name := strings.Repeat(string([]byte{arg % 5 * 63}), int(arg%4))
	switch kind % 4 {
	case 0:
		n.Write(int64(arg)-9, name)
		m.data, m.changed, m.version = name, int64(arg)-9, min(m.version+1, top)
		return true, true
	case 1:
		has := m.names[name]
		if has {
			delete(m.names, name)
			m.kids = min(m.kids+1, top)
		}
		return n.Remove(name), has
	}
	had := m.names[name]
	if !had {
		m.names[name] = true
		m.kids, m.next = min(m.kids+1, top), min(m.next+1, top)
	}
	return n.Add(name), !had
}

// run does steps, and reads the node from its bytes between them.
func run(t *testing.T, begin int64, owner int64, steps []byte) {
	n, m := New(begin, owner, "d"), &model{made: begin, changed: begin, owner: owner, data: "d", names: map[string]bool{}}
	m.version, m.kids, m.next = top-begin, top-2*begin, top-3*begin
	n.Version, n.Kids, n.Next = int(m.version), int(m.kids), int(m.next)
	for i := 0; i+1 < len(steps); i += 2 {
		a, b := step(&n, m, steps[i], steps[i+1])
		if a != b || tell(n) != m.tell() || n.Ephemeral() != (owner != 0) {
			t.Fatalf("step %d: %v, %s, want %v, %s", i/2, a, tell(n), b, m.tell())
		}
		x, ok := Get(pack.Read(Put(n)))
		if !ok || !Same(x, n) || tell(x) != tell(n) {
			t.Fatalf("step %d: %v, %s is got of %s", i/2, ok, tell(x), tell(n))
		}
		n = x
	}
}

// P10.1: long runs against the model.
func TestRuns(t *testing.T) {
	luck := rand.New(rand.NewSource(10))
	for range 200 {
		steps := make([]byte, 400)
		luck.Read(steps)
		run(t, luck.Int63n(100), luck.Int63n(3)-1, steps)
	}
}

// P10.1: runs as they come.
func FuzzRuns(f *testing.F) {
	f.Add(int64(5), int64(0), []byte{0, 1, 2, 3, 1, 3, 2, 7, 3, 7})
	f.Fuzz(func(t *testing.T, begin, owner int64, steps []byte) {
		run(t, max(begin, 0)%(1<<20), owner, steps[:min(len(steps), 600)])
	})
}

// may tells by the promise's words whether a node may be got.
func may(n Node) bool {
	for i, name := range n.Names {
		if len(name) > 40 || i > 0 && name <= n.Names[i-1] {
			return false
		}
	}
	in := func(v int) bool { return 0 <= v && v <= top }
	return len(n.Data) <= 1000 && len(n.Names) <= 500 && in(n.Version) && in(n.Kids) && in(n.Next)
}

// R1, P10.1: whatever the bytes, what is got is what was put, and nothing else is.
func FuzzGet(f *testing.F) {
	f.Add([]byte{})
	for _, list := range []map[string]Node{good(), bad()} {
		for _, n := range list {
			if b := plain(n); len(b) < 5000 {
				f.Add(append(b, 1, 2))
			}
		}
	}
	f.Fuzz(func(t *testing.T, b []byte) {
		n, ok := Get(pack.Read(b))
		if !ok {
			refused(t, "some bytes", b)
			return
		}
		if !bytes.HasPrefix(b, plain(n)) || !may(n) || n.Length != len(n.Data) || n.Count != len(n.Names) {
			t.Fatalf("%s is got of %x", tell(n), b)
		}
	})
}

// R1, P10.1: whatever the numbers and texts, what was put is got, where it may be.
func FuzzPut(f *testing.F) {
	f.Add(int64(1), int64(2), 3, 4, int64(5), 6, "x", "a", "b", "c")
	f.Add(int64(-1), int64(math.MinInt64), top, top, int64(-1), top, fill(1000), "", fill(40), "y")
	f.Add(int64(-1), int64(math.MinInt64), top+1, -1, int64(-1), -1, fill(1001), "a", "a", fill(41))
	f.Fuzz(func(t *testing.T, made, changed int64, version, kids int, owner int64, next int, data, a, b, c string) {
		n := Node{Stat: api.Stat{Made: made, Changed: changed, Version: version, Kids: kids, Owner: owner}, Data: data, Next: next, Names: []string{a, b, c}}
		if !bytes.Equal(Put(n), plain(n)) {
			t.Fatalf("%s: %x is put", tell(n), Put(n))
		}
		if may(n) {
			got(t, "some node", n)
		} else {
			refused(t, "some node", plain(n))
		}
	})
}
