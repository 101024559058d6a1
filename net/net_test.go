package net

import (
	"fmt"
	"math"
	"math/rand"
	"runtime"
	"slices"
	"strings"
	"testing"
	"unsafe"
	"weak"

	"aviary/api"
)

// odd are numbers that are neither nodes nor places, however many of them there are.
var odd = []int{-1, -2, -64, -65536, 65, 128, 65536, 65537, math.MinInt32, math.MaxInt32, math.MinInt, math.MinInt + 1, math.MaxInt}

// made makes an empty net.
func made(t testing.TB, nodes, room int) *Net {
	t.Helper()
	n, e := New(nodes, room)
	if e != api.OK || n == nil {
		t.Fatalf("New(%d, %d): %d", nodes, room, e)
	}
	return n
}

// kind is a message from node 0 to itself by whose Kind it is known.
func kind(k int) Message { return Message{Kind: k} }

// of makes a message from one node to another.
func of(from, to int) Message { return Message{From: from, To: to} }

// row makes a net of 4 nodes in which messages of these Kinds wait.
func row(t testing.TB, room int, kinds ...int) *Net {
	t.Helper()
	n := made(t, 4, room)
	for _, k := range kinds {
		if n.Send(kind(k)) != 1 {
			t.Fatalf("%d is lost", k)
		}
	}
	return n
}

// text tells a message, its lists by their items.
func text(m Message) string {
	s := fmt.Sprintf("%d>%d/%d%d", m.From, m.To, m.Kind, m.N)
	for _, b := range m.B {
		s += fmt.Sprintf("%q", b)
	}
	return s
}

// show tells all that waits.
func show(n *Net) string {
	var s []string
	for k := range n.Len() {
		m, ok := n.At(k)
		if !ok {
			return fmt.Sprintf("none at %d of %d", k, n.Len())
		}
		s = append(s, text(m))
	}
	return strings.Join(s, " ")
}

// want holds what waits against messages.
func want(t testing.TB, n *Net, l ...Message) {
	t.Helper()
	var s []string
	for _, m := range l {
		s = append(s, text(m))
	}
	if a, b := show(n), strings.Join(s, " "); a != b || n.Len() != len(l) {
		t.Fatalf("%d wait: %s, want %d: %s", n.Len(), a, len(l), b)
	}
}

// wantKinds holds the Kinds of what waits against numbers.
func wantKinds(t testing.TB, n *Net, kinds ...int) {
	t.Helper()
	var l []Message
	for _, k := range kinds {
		l = append(l, kind(k))
	}
	want(t, n, l...)
}

// wantNone holds an answer for nothing against the zero ones.
func wantNone(t testing.TB, what string, m Message, ok bool) {
	t.Helper()
	if ok || m.From != 0 || m.To != 0 || m.Kind != 0 || len(m.N) != 0 || len(m.B) != 0 {
		t.Errorf("%s: %s, %v, want nothing", what, text(m), ok)
	}
}

// lost tells from which nodes to which nothing comes; it asks all there could be, and leaves nothing.
func lost(t testing.TB, n *Net, nodes int) string {
	t.Helper()
	s, begin := "", n.Len()
	for from := range nodes {
		for to := range nodes {
			k := n.Send(of(from, to))
			if k == 0 {
				s += fmt.Sprintf("%d>%d ", from, to)
			}
			if n.Len() != begin+k || k == 1 && !n.Lose(begin) {
				t.Fatalf("%d>%d: Send answers %d, %d wait", from, to, k, n.Len())
			}
		}
	}
	return s
}

// wantLost holds what is lost against a text.
func wantLost(t testing.TB, n *Net, nodes int, text string) {
	t.Helper()
	if s := lost(t, n, nodes); s != text {
		t.Fatalf("lost is %q, want %q", s, text)
	}
}

// P9.1: New: which nodes and which room may be.
func TestNew(t *testing.T) {
	for _, nodes := range []int{1, 2, 5, 63, 64} {
		for _, room := range []int{1, 2, 2000, 65535, 65536} {
			if n := made(t, nodes, room); n.Len() != 0 {
				t.Errorf("New(%d, %d): %d wait", nodes, room, n.Len())
			}
		}
	}
	no := func(nodes, room int) {
		t.Helper()
		if n, e := New(nodes, room); n != nil || e != api.EARG {
			t.Errorf("New(%d, %d): %v, %d, want EARG", nodes, room, n, e)
		}
	}
	for _, bad := range append([]int{0}, odd...) {
		no(bad, 1)
		no(bad, 65536)
		no(bad, 0)
		no(bad, bad)
	}
	for _, bad := range []int{0, -1, 65537, 65538, 1 << 17, math.MinInt32, math.MaxInt32, math.MinInt, math.MaxInt} {
		no(1, bad)
		no(64, bad)
		no(0, bad)
		no(65, bad)
	}
}

// P9.1: as many nodes as New was told, and as much room.
func TestSizes(t *testing.T) {
	for _, nodes := range []int{1, 2, 63, 64} {
		n := made(t, nodes, 3)
		if n.Send(of(nodes-1, 0), of(0, nodes-1), of(nodes-1, nodes-1)) != 3 {
			t.Errorf("%d nodes: the last one is none", nodes)
		}
		n = made(t, nodes, 3)
		if n.Send(of(nodes, 0), of(0, nodes), of(nodes, nodes)) != 0 || n.Len() != 0 {
			t.Errorf("%d nodes: one past the last is one", nodes)
		}
	}
	for _, room := range []int{1, 2, 3, 65535, 65536} {
		n := made(t, 1, room)
		for k := range room {
			if n.Send(kind(k)) != 1 || n.Len() != k+1 {
				t.Fatalf("room %d: number %d is lost", room, k)
			}
		}
		if n.Send(kind(-1)) != 0 || n.Len() != room || n.Copy(0) || n.Len() != room {
			t.Errorf("room %d: %d wait", room, n.Len())
		}
		for k := range room {
			if m, ok := n.At(k); !ok || m.Kind != k {
				t.Fatalf("room %d: At(%d): %d, %v", room, k, m.Kind, ok)
			}
		}
		m, ok := n.At(room)
		wantNone(t, "At(room)", m, ok)
		for k := range room {
			if m, ok := n.Take(0); !ok || m.Kind != k {
				t.Fatalf("room %d: number %d is %d, %v", room, k, m.Kind, ok)
			}
		}
		if n.Len() != 0 || n.Send(kind(0)) != 1 {
			t.Errorf("room %d: not empty again", room)
		}
	}
}

// P9.1: two nets have nothing to do with each other.
func TestNetsAreApart(t *testing.T) {
	a, b := made(t, 3, 2), made(t, 3, 2)
	a.Cut(0, 1, true)
	a.Send(of(2, 2), of(2, 1))
	if b.Len() != 0 || b.Send(of(0, 1), of(1, 0)) != 2 {
		t.Errorf("one net tells of another")
	}
	b.Heal()
	b.Take(0)
	want(t, a, of(2, 2), of(2, 1))
	a.Take(0)
	wantLost(t, a, 3, "0>1 1>0 ")
}

// P9.1: Send: of no message, of one, of several of which some are lost.
func TestSend(t *testing.T) {
	list := []struct {
		name string
		sent []Message
		wait []Message
	}{
		{"none", nil, nil},
		{"one", []Message{of(0, 1)}, []Message{of(0, 1)}},
		{"one, lost", []Message{of(0, 2)}, nil},
		{"two", []Message{of(1, 0), of(0, 1)}, []Message{of(1, 0), of(0, 1)}},
		{"first lost", []Message{of(2, 0), of(0, 1)}, []Message{of(0, 1)}},
		{"last lost", []Message{of(3, 0), of(0, -1)}, []Message{of(3, 0)}},
		{"between lost", []Message{of(3, 0), of(4, 4), of(1, 3)}, []Message{of(3, 0), of(1, 3)}},
		{"all lost", []Message{of(0, 4), of(2, 0), of(-1, 0)}, nil},
		{"some lost", []Message{of(0, 4), kind(1), of(0, 2), kind(2), kind(3), of(2, 0)}, []Message{kind(1), kind(2), kind(3)}},
		{"all alike", []Message{kind(1), kind(1), kind(1)}, []Message{kind(1), kind(1), kind(1)}},
	}
	for _, c := range list {
		n := made(t, 4, 10)
		n.Cut(0, 2, true)
		if k := n.Send(c.sent...); k != len(c.wait) {
			t.Errorf("%s: %d, want %d", c.name, k, len(c.wait))
		}
		want(t, n, c.wait...)
		// Behind others it counts its own alone.
		if k := n.Send(c.sent...); k != len(c.wait) {
			t.Errorf("%s, again: %d, want %d", c.name, k, len(c.wait))
		}
		want(t, n, append(slices.Clone(c.wait), c.wait...)...)
	}
	n := made(t, 4, 10)
	if n.Send() != 0 || n.Send([]Message{}...) != 0 || n.Len() != 0 {
		t.Errorf("of no message: %d wait", n.Len())
	}
}

// P9.1: what is sent is told as it was sent, whatever its numbers and its bytes are.
func TestAllIsBrought(t *testing.T) {
	list := []Message{
		{},
		{From: 3, To: 2, Kind: 1},
		{From: 1, To: 1, Kind: -1},
		{Kind: math.MinInt},
		{Kind: math.MaxInt},
		{N: []int64{0}},
		{N: []int64{math.MinInt64, -1, 0, 1, math.MaxInt64}},
		{N: []int64{5, 5, 5}, B: [][]byte{[]byte("a"), []byte("a")}},
		{B: [][]byte{nil}},
		{B: [][]byte{{}, nil, {}}},
		{B: [][]byte{[]byte("\x00\xff\n"), nil, []byte(strings.Repeat("x", 9000)), []byte("last")}},
		{From: 2, To: 3, Kind: 9, N: make([]int64, 500), B: make([][]byte, 500)},
	}
	n := made(t, 4, 100)
	if k := n.Send(list...); k != len(list) {
		t.Fatalf("%d of %d wait", k, len(list))
	}
	want(t, n, list...)
	for k := range list {
		if !n.Copy(k) {
			t.Fatalf("no copy of %d", k)
		}
	}
	want(t, n, append(slices.Clone(list), list...)...)
	for range 2 {
		for _, m := range list {
			if x, ok := n.Take(0); !ok || text(x) != text(m) {
				t.Errorf("took %s, want %s", text(x), text(m))
			}
		}
	}
	want(t, n)
}

// P9.1: Send: a From or To that is no node is lost; so it is wherever the other one is.
func TestEnds(t *testing.T) {
	const nodes = 5
	for _, from := range append([]int{0, 1, 4, 5, 6, 64}, odd...) {
		for _, to := range append([]int{0, 1, 4, 5, 6, 64}, odd...) {
			n, k := made(t, nodes, 9), 0
			if from >= 0 && from < nodes && to >= 0 && to < nodes {
				k = 1
			}
			if got := n.Send(of(from, to)); got != k || n.Len() != k {
				t.Errorf("%d>%d: %d, want %d", from, to, got, k)
			}
		}
	}
}

// P9.1: Send: a node may send to itself.
func TestToItself(t *testing.T) {
	n := made(t, 64, 64)
	for k := range 64 {
		if n.Send(of(k, k)) != 1 {
			t.Errorf("%d to itself is lost", k)
		}
	}
}

// P9.1: Send: as many as room wait, within one call.
func TestRoomAtOnce(t *testing.T) {
	for _, room := range []int{1, 2, 3, 7} {
		for count := range room + 3 {
			var l []Message
			for k := range count {
				l = append(l, kind(k))
			}
			n := made(t, 4, room)
			wait := min(room, count)
			if k := n.Send(l...); k != wait {
				t.Errorf("room %d, %d sent: %d wait", room, count, k)
			}
			want(t, n, l[:wait]...)
			if k := n.Send(l...); k != min(room-wait, count) {
				t.Errorf("room %d, %d sent, again: %d wait", room, count, k)
			}
		}
	}
}

// P9.1: Send: as many as room wait, over several calls: those that are lost take none of it.
func TestRoomOverSeveral(t *testing.T) {
	n := made(t, 4, 5)
	n.Cut(0, 1, true)
	steps := []struct {
		sent []Message
		wait int
	}{
		{[]Message{kind(1), of(0, 1), kind(2)}, 2},
		{nil, 0},
		{[]Message{of(1, 0), of(9, 0), of(0, -1)}, 0},
		{[]Message{of(1, 0), kind(3)}, 1},
		{[]Message{kind(4), of(0, 4), kind(5), kind(6), kind(7)}, 2},
		{[]Message{kind(8)}, 0},
		{[]Message{kind(8), kind(9)}, 0},
		{nil, 0},
	}
	for i, s := range steps {
		if k := n.Send(s.sent...); k != s.wait {
			t.Errorf("step %d: %d, want %d", i, k, s.wait)
		}
	}
	wantKinds(t, n, 1, 2, 3, 4, 5)
	n.Take(1)
	if n.Send(kind(10), kind(11)) != 1 {
		t.Errorf("behind a Take there is room for one")
	}
	n.Lose(0)
	n.Lose(3)
	if n.Send(kind(12), kind(13), kind(14)) != 2 {
		t.Errorf("behind two Loses there is room for two")
	}
	wantKinds(t, n, 3, 4, 5, 12, 13)
	n.Heal()
	n.Cut(0, 1, false)
	if n.Send(kind(15)) != 0 {
		t.Errorf("a Heal makes no room")
	}
}

// P9.1: Len counts those that wait.
func TestLen(t *testing.T) {
	n := made(t, 4, 3)
	steps := []struct {
		call func()
		want int
	}{
		{func() {}, 0},
		{func() { n.Send(kind(1)) }, 1},
		{func() { n.Send(of(4, 4)) }, 1},
		{func() { n.At(0) }, 1},
		{func() { n.Copy(0) }, 2},
		{func() { n.Send(kind(1), kind(2)) }, 3},
		{func() { n.Copy(0) }, 3},
		{func() { n.Cut(0, 0, true) }, 3},
		{func() { n.Take(1) }, 2},
		{func() { n.Take(2) }, 2},
		{func() { n.Heal() }, 2},
		{func() { n.Lose(-1) }, 2},
		{func() { n.Lose(1) }, 1},
		{func() { n.Take(0) }, 0},
		{func() { n.Take(0) }, 0},
		{func() { n.Lose(0) }, 0},
	}
	for i, s := range steps {
		s.call()
		if n.Len() != s.want {
			t.Errorf("step %d: %d, want %d", i, n.Len(), s.want)
		}
	}
}

// P9.1: At, Take, Lose, Copy: of a place where none waits: nothing is told, and nothing is changed.
func TestNone(t *testing.T) {
	for _, kinds := range [][]int{nil, {7}, {7, 8, 9}} {
		for _, k := range append([]int{len(kinds), len(kinds) + 1}, odd...) {
			n := row(t, 9, kinds...)
			m, ok := n.At(k)
			wantNone(t, fmt.Sprintf("At(%d) of %d", k, len(kinds)), m, ok)
			m, ok = n.Take(k)
			wantNone(t, fmt.Sprintf("Take(%d) of %d", k, len(kinds)), m, ok)
			if n.Lose(k) || n.Copy(k) {
				t.Errorf("Lose or Copy(%d) of %d: true", k, len(kinds))
			}
			wantKinds(t, n, kinds...)
		}
	}
}

// P9.1: a place behind the last one has none, though one waited there before.
func TestNoneAnyMore(t *testing.T) {
	n := row(t, 9, 1, 2, 3)
	n.Take(0)
	n.Lose(0)
	for k := 1; k < 4; k++ {
		m, ok := n.At(k)
		wantNone(t, "At", m, ok)
		m, ok = n.Take(k)
		wantNone(t, "Take", m, ok)
		if n.Lose(k) || n.Copy(k) {
			t.Errorf("Lose or Copy(%d): true", k)
		}
	}
	wantKinds(t, n, 3)
}

// P9.1: At tells the k-th, and leaves all as it was.
func TestAt(t *testing.T) {
	kinds := []int{5, 3, 9, 3, 1}
	n := row(t, 9, kinds...)
	for range 2 {
		for _, k := range []int{4, 0, 2, 1, 3, 0} {
			if m, ok := n.At(k); !ok || text(m) != text(kind(kinds[k])) {
				t.Errorf("At(%d): %s, %v", k, text(m), ok)
			}
			wantKinds(t, n, kinds...)
		}
	}
}

// P9.1: Take and Lose: the k-th goes, and the others keep their order.
func TestTakeAndLose(t *testing.T) {
	for count := range 8 {
		for k := range count {
			var kinds []int
			for i := range count {
				kinds = append(kinds, 10+i)
			}
			taken, gone := row(t, 9, kinds...), row(t, 9, kinds...)
			if m, ok := taken.Take(k); !ok || text(m) != text(kind(10+k)) {
				t.Errorf("Take(%d) of %d: %s, %v", k, count, text(m), ok)
			}
			if !gone.Lose(k) {
				t.Errorf("Lose(%d) of %d: false", k, count)
			}
			kinds = slices.Delete(kinds, k, k+1)
			wantKinds(t, taken, kinds...)
			wantKinds(t, gone, kinds...)
			// The next one waits last.
			taken.Send(kind(1), kind(2))
			gone.Send(kind(1), kind(2))
			wantKinds(t, taken, append(slices.Clone(kinds), 1, 2)...)
			wantKinds(t, gone, append(slices.Clone(kinds), 1, 2)...)
		}
	}
}

// P9.1: several Takes and Loses, one behind the other: the place is told by who waits then.
func TestTakesInTurn(t *testing.T) {
	n := row(t, 9, 0, 1, 2, 3, 4, 5, 6)
	for _, c := range [][2]int{{3, 3}, {3, 4}, {0, 0}, {3, 6}, {1, 2}, {1, 5}, {0, 1}} {
		if m, ok := n.Take(c[0]); !ok || m.Kind != c[1] {
			t.Errorf("Take(%d): %d, %v, want %d", c[0], m.Kind, ok, c[1])
		}
	}
	want(t, n)
	n = row(t, 9, 0, 1, 2, 3, 4)
	if !n.Lose(4) || !n.Lose(1) || !n.Lose(0) || n.Lose(2) {
		t.Errorf("Lose")
	}
	wantKinds(t, n, 2, 3)
}

// P9.1: Copy: another one of the k-th waits, last; the first one stays where it is.
func TestCopy(t *testing.T) {
	for k := range 3 {
		n := row(t, 9, 5, 6, 7)
		if !n.Copy(k) {
			t.Errorf("Copy(%d): false", k)
		}
		wantKinds(t, n, 5, 6, 7, 5+k)
		if !n.Copy(3) { // a copy of a copy
			t.Errorf("Copy(3): false")
		}
		wantKinds(t, n, 5, 6, 7, 5+k, 5+k)
	}
}

// P9.1: Copy: false, if room wait: and then nothing is changed.
func TestCopyRoom(t *testing.T) {
	for _, room := range []int{1, 2, 3, 5} {
		n := row(t, room, 1)
		kinds := []int{1}
		for len(kinds) < room {
			if !n.Copy(0) {
				t.Fatalf("room %d, %d wait: no copy", room, len(kinds))
			}
			kinds = append(kinds, 1)
		}
		for k := range room {
			if n.Copy(k) {
				t.Errorf("room %d: one more", room)
			}
		}
		if n.Copy(-1) || n.Copy(room) {
			t.Errorf("room %d: a copy of none", room)
		}
		wantKinds(t, n, kinds...)
		n.Lose(0)
		if n.Copy(room-1) || room > 1 && !n.Copy(0) {
			t.Errorf("room %d, one was lost: no copy, or one of none", room)
		}
	}
}

// P9.1: Copy: it was sent before: so a way that is cut then loses nothing of it.
func TestCopyOfCutWay(t *testing.T) {
	n := made(t, 4, 9)
	n.Send(of(0, 1), of(1, 0))
	n.Cut(0, 1, true)
	if !n.Copy(0) || !n.Copy(1) {
		t.Errorf("no copy")
	}
	want(t, n, of(0, 1), of(1, 0), of(0, 1), of(1, 0))
	wantLost(t, n, 4, "0>1 1>0 ")
}

// P9.1: Cut: both ways at once, whichever node is named first, and between other nodes nothing.
func TestCut(t *testing.T) {
	const nodes = 5
	for a := range nodes {
		for b := range nodes {
			low, high := min(a, b), max(a, b)
			both := fmt.Sprintf("%d>%d %d>%d ", low, high, high, low)
			if a == b {
				both = fmt.Sprintf("%d>%d ", a, a)
			}
			n := made(t, nodes, 9)
			n.Cut(a, b, false) // it was not
			wantLost(t, n, nodes, "")
			n.Cut(a, b, true)
			wantLost(t, n, nodes, both)
			n.Cut(b, a, true) // once more is no more
			wantLost(t, n, nodes, both)
			n.Cut(b, a, false)
			wantLost(t, n, nodes, "")
			n.Cut(b, a, true)
			wantLost(t, n, nodes, both)
			n.Cut(b, a, false)
			n.Cut(a, b, false)
			wantLost(t, n, nodes, "")
		}
	}
}

// P9.1: Cut: between the first nodes and the last ones of a net that is as great as it may be.
func TestCutOfMany(t *testing.T) {
	n := made(t, 64, 9)
	wantLost(t, n, 64, "")
	for _, c := range [][2]int{{63, 0}, {63, 63}, {31, 32}, {0, 0}, {62, 63}} {
		n.Cut(c[0], c[1], true)
	}
	wantLost(t, n, 64, "0>0 0>63 31>32 32>31 62>63 63>0 63>62 63>63 ")
	n.Cut(63, 63, false)
	wantLost(t, n, 64, "0>0 0>63 31>32 32>31 62>63 63>0 63>62 ")
	for a := range 64 {
		for b := range a + 1 {
			n.Cut(a, b, true)
		}
	}
	if s := lost(t, n, 64); strings.Count(s, ">") != 64*64 {
		t.Errorf("not all are lost")
	}
	n.Cut(17, 40, false)
	if n.Send(of(17, 40), of(40, 17), of(17, 41), of(16, 40), of(17, 17)) != 2 {
		t.Errorf("one way is whole, and none beside it")
	}
	n.Heal()
	wantLost(t, n, 64, "")
}

// P9.1: Cut: several ways: each is by itself.
func TestCutsInTurn(t *testing.T) {
	n := made(t, 4, 9)
	n.Cut(0, 1, true)
	n.Cut(2, 1, true)
	wantLost(t, n, 4, "0>1 1>0 1>2 2>1 ")
	n.Cut(0, 2, false)
	n.Cut(3, 3, false)
	wantLost(t, n, 4, "0>1 1>0 1>2 2>1 ")
	n.Cut(1, 0, false)
	wantLost(t, n, 4, "1>2 2>1 ")
	n.Cut(3, 3, true)
	wantLost(t, n, 4, "1>2 2>1 3>3 ")
	n.Cut(1, 2, false)
	wantLost(t, n, 4, "3>3 ")
}

// P9.1: Cut of numbers that are no nodes cuts nothing, and makes nothing whole.
func TestCutOfNoNodes(t *testing.T) {
	const nodes = 4
	none := append([]int{4, 5, 8, 63, 64}, odd...)
	n := made(t, nodes, 9)
	cutAll := func(lost bool) {
		for _, a := range none {
			for _, b := range append([]int{0, 1, 2, 3}, none...) {
				n.Cut(a, b, lost)
				n.Cut(b, a, lost)
			}
		}
	}
	cutAll(true)
	wantLost(t, n, nodes, "")
	n.Cut(0, 1, true)
	n.Cut(3, 3, true)
	cutAll(false)
	wantLost(t, n, nodes, "0>1 1>0 3>3 ")
	cutAll(true)
	wantLost(t, n, nodes, "0>1 1>0 3>3 ")
	if n.Send(of(0, 4), of(4, 4), of(-1, 0)) != 0 {
		t.Errorf("what is no node is none behind a Cut either")
	}
}

// P9.1: Cut: what was sent before it still waits, in its place; what was lost does not come back.
func TestCutLater(t *testing.T) {
	n := made(t, 4, 9)
	n.Send(of(0, 1), of(1, 2), of(1, 0))
	n.Cut(0, 1, true)
	want(t, n, of(0, 1), of(1, 2), of(1, 0))
	if n.Send(of(1, 0), of(0, 2), of(0, 1)) != 1 {
		t.Errorf("a way that is cut loses what is sent")
	}
	want(t, n, of(0, 1), of(1, 2), of(1, 0), of(0, 2))
	if m, ok := n.Take(2); !ok || text(m) != text(of(1, 0)) {
		t.Errorf("took %s, %v", text(m), ok)
	}
	n.Cut(1, 0, false)
	want(t, n, of(0, 1), of(1, 2), of(0, 2))
	n.Cut(0, 1, true)
	n.Heal()
	want(t, n, of(0, 1), of(1, 2), of(0, 2))
}

// P9.1: Heal: no way is cut then, and each may be cut anew.
func TestHeal(t *testing.T) {
	n := made(t, 4, 9)
	n.Heal() // of nothing
	wantLost(t, n, 4, "")
	n.Send(of(0, 1))
	for a := range 4 {
		for b := range 4 {
			n.Cut(a, b, true)
		}
	}
	if s := lost(t, n, 4); strings.Count(s, ">") != 16 {
		t.Fatalf("lost is %s", s)
	}
	n.Heal()
	wantLost(t, n, 4, "")
	want(t, n, of(0, 1))
	n.Cut(2, 3, false)
	wantLost(t, n, 4, "")
	n.Cut(2, 3, true)
	wantLost(t, n, 4, "2>3 3>2 ")
	n.Heal()
	n.Heal()
	wantLost(t, n, 4, "")
}

// The chapter's example.
func TestExample(t *testing.T) {
	n := made(t, 2, 1)
	n.Cut(0, 1, true)
	if k := n.Send(of(0, 1)); k != 0 || n.Len() != 0 {
		t.Errorf("%d, %d wait", k, n.Len())
	}
}

// Ways: Send takes none, one, several and a list.
func TestVariadic(t *testing.T) {
	n := made(t, 1, 9)
	var send func(l ...Message) int = n.Send
	if send() != 0 || send(kind(1)) != 1 || send(kind(2), kind(3)) != 2 || send([]Message{kind(4), kind(5)}...) != 2 {
		t.Errorf("%s", show(n))
	}
	wantKinds(t, n, 1, 2, 3, 4, 5)
}

// roomy makes a message whose lists have spare room, each with marks in it; and tells all of that memory.
func roomy() (Message, func() string) {
	numbers := []int64{1, -2, 77, 78}
	first, second := []byte("abXY"), []byte("cXY")
	lists := [][]byte{first[:2], second[:1], []byte("spare")}
	l := Message{From: 1, To: 2, Kind: 3, N: numbers[:2], B: lists[:2]}
	return l, func() string {
		return fmt.Sprintf("%d %d %d %q %q %q %d %d", l.From, l.To, l.Kind, first, second, lists, numbers, len(l.N)+len(l.B))
	}
}

// scribble changes all of a message's memory, spare room too.
func scribble(m Message) {
	for i := range m.N[:cap(m.N)] {
		m.N[:cap(m.N)][i] = 99
	}
	for _, b := range m.B[:cap(m.B)] {
		for i := range b[:cap(b)] {
			b[:cap(b)][i] = '!'
		}
	}
	clear(m.B[:cap(m.B)])
}

// R4: what is handed in is not changed, spare room included, by anything that is done behind.
func TestHandedIn(t *testing.T) {
	m, tell := roomy()
	list := []Message{m, of(9, 9), m, kind(5)}
	held := tell()
	n := made(t, 4, 9)
	if n.Send(list[:3]...) != 2 || !n.Copy(0) {
		t.Fatalf("%s", show(n))
	}
	for n.Len() > 0 {
		x, _ := n.At(0)
		y, _ := n.Take(0)
		scribble(x)
		scribble(y)
	}
	if tell() != held {
		t.Errorf("handed in: %s, was %s", tell(), held)
	}
	for i, w := range []Message{m, of(9, 9), m, kind(5)} {
		if text(list[i]) != text(w) {
			t.Errorf("number %d of the list: %s", i, text(list[i]))
		}
	}
}

// R4: what is handed in is not kept: what comes of it then is not seen.
func TestNotKept(t *testing.T) {
	m, _ := roomy()
	was := text(m)
	n := made(t, 4, 9)
	list := []Message{m, m}
	n.Send(list...)
	n.Send(m)
	scribble(m)
	list[0], list[1] = kind(8), Message{From: 3, N: []int64{4}}
	n.Copy(0)
	for range 4 {
		if x, ok := n.Take(0); !ok || text(x) != was {
			t.Errorf("told %s, was %s", text(x), was)
		}
	}
}

// R4: one list that is in several places of what is sent is as many.
func TestSentTwice(t *testing.T) {
	b, numbers := []byte("ab"), []int64{1, 2}
	m := Message{N: numbers, B: [][]byte{b, b, b[:1], b[1:]}}
	n := made(t, 4, 9)
	n.Send(m, m)
	x, _ := n.Take(0)
	x.N[0], x.B[0][0], x.B[0][1] = 9, '!', '!'
	if s := text(x); s != `0>0/0[9 2]"!!""ab""a""b"` {
		t.Errorf("%s", s)
	}
	scribble(x)
	if s := show(n); s != `0>0/0[1 2]"ab""ab""a""b"` {
		t.Errorf("%s", s)
	}
}

// R4: what At, Take and Copy tell is new memory: whatever is done to one changes no other one.
func TestAnswersAreNew(t *testing.T) {
	m, _ := roomy()
	was := text(m)
	n := made(t, 4, 9)
	n.Send(m)
	for range 3 {
		n.Copy(0)
	}
	var told []Message
	for range 3 {
		for k := range n.Len() {
			x, _ := n.At(k)
			told = append(told, x)
		}
	}
	for n.Len() > 1 {
		x, _ := n.Take(1)
		told = append(told, x)
	}
	x, _ := n.Take(0)
	told = append(told, x)
	for i := range told {
		for _, x := range told[i:] {
			if text(x) != was {
				t.Fatalf("%s, was %s", text(x), was)
			}
		}
		scribble(told[i])
	}
}

// R4: the lists of one answer share no room: what is put behind one is not in another.
func TestListsAreApart(t *testing.T) {
	for _, taken := range []bool{false, true} {
		n := made(t, 4, 9)
		n.Send(Message{N: []int64{1}, B: [][]byte{[]byte("a"), {}, []byte("bc"), nil, []byte("d")}})
		m, _ := n.At(0)
		if taken {
			m, _ = n.Take(0)
		}
		for i := range m.B {
			_ = append(m.B[i], "????????????????????"[:cap(m.B[i])-len(m.B[i])]...)
		}
		if s := text(m); s != `0>0/0[1]"a""""bc""""d"` {
			t.Errorf("%s", s)
		}
		_ = append(m.B, []byte("more"))
		_ = append(m.N, 7)
		if !taken && show(n) != `0>0/0[1]"a""""bc""""d"` {
			t.Errorf("%s", show(n))
		}
	}
}

// R4: an empty list holds on to no memory of what was handed in, and has no room there.
func TestEmptyLists(t *testing.T) {
	numbers, b, lists := make([]int64, 4), []byte("spare"), make([][]byte, 4)
	for _, taken := range []bool{false, true} {
		n := made(t, 4, 9)
		n.Send(Message{N: numbers[:0], B: lists[:0]}, Message{N: numbers[:0:0], B: [][]byte{b[:0], b[:0:0]}})
		n.Copy(0)
		n.Copy(1)
		for n.Len() > 0 {
			m, _ := n.At(0)
			if taken {
				m, _ = n.Take(0)
			} else {
				n.Lose(0)
			}
			if len(m.N) != 0 || unsafe.SliceData(m.N) == unsafe.SliceData(numbers) || unsafe.SliceData(m.B) == unsafe.SliceData(lists) {
				t.Errorf("an empty list is the one that was handed in")
			}
			for _, x := range m.B {
				if len(x) != 0 || unsafe.SliceData(x) == unsafe.SliceData(b) {
					t.Errorf("empty bytes are those that were handed in")
				}
			}
		}
	}
	if string(b) != "spare" || !slices.Equal(numbers, make([]int64, 4)) {
		t.Errorf("changed")
	}
}

// R2, R4: a Message that is told has what was sent, and no more than one that was sent before it in its place.
func TestNothingOfOthers(t *testing.T) {
	n := made(t, 4, 2)
	m, _ := roomy()
	n.Send(m, m)
	n.Take(0)
	n.Send(Message{})
	n.Lose(0)
	n.Send(kind(4))
	want(t, n, Message{}, kind(4))
}

// great is memory by which it is told whether a net holds on to it: it is too great to share a block with others.
type great [1 << 13]int64

// pass sends messages, some of which are lost, and lets all go again; it tells all memory that it handed in or was told.
func pass(t *testing.T, n *Net) []weak.Pointer[great] {
	var all []weak.Pointer[great]
	mark := func() *great {
		g := new(great)
		all = append(all, weak.Make(g))
		return g
	}
	n.Cut(0, 1, true)
	n.Send(Message{N: mark()[:]}, Message{To: 1, N: mark()[:]}, Message{To: 4, N: mark()[:]}, Message{N: mark()[:0]}, Message{N: mark()[:0:0]}, Message{N: mark()[:]})
	for k := range 4 {
		if m, _ := n.At(k); len(m.N) != 0 {
			all = append(all, weak.Make((*great)(m.N)))
		}
		n.Copy(k)
	}
	for _, k := range []int{7, 2, 0, 3, 3, 0, 1, 0} {
		m, _ := n.Take(k)
		if len(m.N) != 0 {
			all = append(all, weak.Make((*great)(m.N)))
		}
	}
	if len(all) != 6+2+4 || n.Len() != 0 {
		t.Fatalf("%d pieces of memory, %d wait", len(all), n.Len())
	}
	return all
}

// LANGUAGE 8: a net keeps nothing of what went, and nothing of what was handed in.
func TestNothingIsKept(t *testing.T) {
	n := made(t, 4, 9)
	all := pass(t, n)
	runtime.GC()
	for i, p := range all {
		if p.Value() != nil {
			t.Errorf("number %d is kept", i)
		}
	}
	if n.Len() != 0 { // so that the net itself is there till here
		t.Errorf("%d wait", n.Len())
	}
}

// LANGUAGE 8: of ways between numbers that are no nodes, and of those that are whole, nothing is kept.
func TestNoWaysAreKept(t *testing.T) {
	n := made(t, 2, 9)
	for k := range 1000 {
		n.Cut(k+2, 0, true)
		n.Cut(0, -k-1, true)
		n.Cut(k+2, k+3, false)
		n.Cut(0, 1, k%2 == 0)
		n.Cut(1, 1, k%3 == 0)
	}
	if len(n.cut) != 1 {
		t.Errorf("%d ways are kept", len(n.cut))
	}
	n.Heal()
	if len(n.cut) != 0 {
		t.Errorf("%d ways are kept behind a Heal", len(n.cut))
	}
}

// R5: what two nets answer that were told the same is the same.
func TestSameCallsSameAnswers(t *testing.T) {
	tell := func() string {
		n, s := made(t, 8, 20), ""
		r := rand.New(rand.NewSource(9))
		for range 2000 {
			a, b := r.Intn(9), r.Intn(9)
			n.Cut(b, a, r.Intn(3) == 0)
			s += fmt.Sprint(n.Send(of(a, b), of(b, a)), n.Copy(a), n.Lose(b), " ")
		}
		return s + show(n)
	}
	if tell() != tell() {
		t.Errorf("two tellings")
	}
}

// model is a net as the chapter's words say it, without care for time or room.
type model struct {
	nodes, room int
	wait        []Message
	cut         [][2]int
}

func (m *model) node(k int) bool { return 0 <= k && k < m.nodes }

func (m *model) send(l ...Message) int {
	count := 0
	for _, x := range l {
		if !m.node(x.From) || !m.node(x.To) {
			continue
		}
		if slices.Contains(m.cut, [2]int{x.From, x.To}) || slices.Contains(m.cut, [2]int{x.To, x.From}) {
			continue
		}
		if len(m.wait) == m.room {
			continue
		}
		m.wait = append(m.wait, x)
		count++
	}
	return count
}

func (m *model) at(k int, goes bool) string {
	if k < 0 || k >= len(m.wait) {
		return "none"
	}
	x := m.wait[k]
	if goes {
		m.wait = append(append([]Message{}, m.wait[:k]...), m.wait[k+1:]...)
	}
	return text(x)
}

func (m *model) double(k int) bool {
	if k < 0 || k >= len(m.wait) || len(m.wait) == m.room {
		return false
	}
	m.wait = append(m.wait, m.wait[k])
	return true
}

func (m *model) sever(a, b int, lost bool) {
	m.cut = slices.DeleteFunc(m.cut, func(w [2]int) bool { return w == [2]int{a, b} || w == [2]int{b, a} })
	if lost {
		m.cut = append(m.cut, [2]int{a, b})
	}
}

// answer tells what At or Take answered.
func answer(m Message, ok bool) string {
	if !ok && text(m) == text(Message{}) {
		return "none"
	}
	if !ok {
		return "false, but " + text(m)
	}
	return text(m)
}

// several makes up to four messages, of two numbers.
func several(one, two byte, serial int) []Message {
	var l []Message
	for k := range int(one) % 5 {
		m := Message{From: int(one/5)%6 - 1, To: int(two)%6 - 1, Kind: serial*5 + k}
		for i := range k {
			m.N = append(m.N, int64(i)-int64(one))
			m.B = append(m.B, []byte(strings.Repeat("z", i+int(two)%3)))
		}
		l = append(l, m)
		two = two/2 + one
	}
	return l
}

// play does one step on both and tells what each answers.
func play(n *Net, m *model, serial int, kind, one, two byte) (string, string) {
	k := int(one)%(m.room+3) - 1
	a, b := int(one)%6-1, int(two)%6-1
	switch kind % 8 {
	case 0, 1:
		l := several(one, two, serial)
		return fmt.Sprint(n.Send(l...)), fmt.Sprint(m.send(l...))
	case 2:
		return answer(n.At(k)), m.at(k, false)
	case 3:
		return answer(n.Take(k)), m.at(k, true)
	case 4:
		return fmt.Sprint(n.Lose(k)), fmt.Sprint(m.at(k, true) != "none")
	case 5:
		return fmt.Sprint(n.Copy(k)), fmt.Sprint(m.double(k))
	case 6:
		n.Cut(a, b, two%3 > 0)
		m.sever(a, b, two%3 > 0)
	case 7:
		if one%4 == 0 {
			n.Heal()
			m.cut = nil
		}
	}
	return "", ""
}

// run plays steps of three bytes and holds the net against the model behind each.
func run(t *testing.T, room int, steps []byte) {
	n, m := made(t, 4, room), &model{nodes: 4, room: room}
	for i := 0; i+3 <= len(steps); i += 3 {
		got, wanted := play(n, m, i, steps[i], steps[i+1], steps[i+2])
		if got != wanted {
			t.Fatalf("step %d, %d of %d, %d: %s, want %s", i/3, steps[i]%8, steps[i+1], steps[i+2], got, wanted)
		}
		want(t, n, m.wait...)
	}
}

// P9.1: long runs.
func TestRuns(t *testing.T) {
	r := rand.New(rand.NewSource(1))
	for i := range 400 {
		steps := make([]byte, 3*200)
		r.Read(steps)
		run(t, 1+i%12, steps)
	}
}

func FuzzRuns(f *testing.F) {
	f.Add(3, []byte{0, 13, 9, 5, 1, 0, 3, 1, 0})
	f.Add(1, []byte{6, 1, 2, 0, 13, 9, 7, 0, 0})
	f.Fuzz(func(t *testing.T, room int, steps []byte) {
		run(t, 1+int(uint(room)%20), steps[:min(len(steps), 600)])
	})
}

// R1: no numbers make it panic.
func FuzzAny(f *testing.F) {
	f.Add(4, 5, 0, 1, 2, int64(3), []byte("x"))
	f.Add(64, 65536, math.MinInt, math.MaxInt, -1, int64(-1), []byte(nil))
	f.Fuzz(func(t *testing.T, nodes, room, a, b, k int, number int64, bytes []byte) {
		n, e := New(nodes, room)
		if may := nodes >= 1 && nodes <= 64 && room >= 1 && room <= 65536; may != (e == api.OK) || may != (n != nil) {
			t.Fatalf("New(%d, %d): %d", nodes, room, e)
		}
		if n == nil {
			n = made(t, 64, 2)
		}
		sent := Message{From: a, To: b, Kind: k, N: []int64{number}, B: [][]byte{bytes}}
		n.Cut(a, k, true)
		n.Cut(k, b, false)
		if count := n.Send(sent, sent); count != n.Len() || count > 2 || n.Copy(count) {
			t.Fatalf("Send answers %d, %d wait", count, n.Len())
		}
		for _, place := range []int{k, a, 0} {
			x, ok := n.At(place)
			y, fine := n.Take(place)
			if ok != fine || text(x) != text(y) || ok && text(x) != text(sent) {
				t.Fatalf("At %s, Take %s, sent %s", text(x), text(y), text(sent))
			}
			n.Copy(place)
			n.Lose(place)
		}
		n.Heal()
	})
}
