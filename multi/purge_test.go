package multi

import (
	"fmt"
	"math"
	"math/rand"
	"slices"
	"strings"
	"testing"

	"aviary/api"
	"aviary/stat"
	"aviary/tree"
)

// purged tells which paths of a tree a Purge should answer, and the nodes that should be there behind it, by its words alone.
func purged(x *tree.Tree, sess int64) ([]string, map[string]stat.Node) {
	stay := map[string]stat.Node{}
	var gone []string
	for names := 8; names > 0; names-- { // those with more names first; Paths rise
		for _, p := range x.Paths() {
			n, _ := x.Node(p)
			if strings.Count(p, "/") != names {
				continue
			}
			if sess > 0 && n.Owner == sess {
				gone = append(gone, p)
			} else {
				stay[p] = n
			}
		}
	}
	for _, p := range gone {
		cut := strings.LastIndex(p, "/")
		up, there := stay[p[:cut]]
		if !there || !slices.Contains(up.Names, p[cut+1:]) {
			continue
		}
		up.Names = slices.DeleteFunc(slices.Clone(up.Names), func(name string) bool { return name == p[cut+1:] })
		up.Count = len(up.Names)
		if up.Kids < most {
			up.Kids++
		}
		stay[p[:cut]] = up
	}
	return gone, stay
}

// purges asks that Purge does what its sentence says.
func purges(t testing.TB, what string, x *tree.Tree, sess int64) []string {
	t.Helper()
	w, stay := purged(x, sess)
	all := left(x) + x.Len()
	gone := Purge(x, sess)
	if !slices.Equal(gone, w) {
		t.Errorf("%s: Purge(%d): %q, want %q", what, sess, gone, w)
	}
	if x.Len() != len(stay) || left(x) != all-len(stay) {
		t.Errorf("%s: Purge(%d): %d nodes and room for %d, want %d of %d", what, sess, x.Len(), left(x), len(stay), all)
	}
	for p, n := range stay {
		wantNode(t, x, p, n)
	}
	if sess > 0 && len(x.Of(sess)) > 0 {
		t.Errorf("%s: behind Purge(%d) %q are there", what, sess, x.Of(sess))
	}
	before := state(x)
	if again := Purge(x, sess); len(again) > 0 || state(x) != before {
		t.Errorf("%s: Purge(%d) once more: %q", what, sess, again)
	}
	return gone
}

// want asks for just these paths, told with blanks between.
func want(t testing.TB, what string, gone []string, w string) {
	t.Helper()
	if s := strings.Join(gone, " "); s != w {
		t.Errorf("%s: %s, want %s", what, s, w)
	}
}

// P12.1: sessions with nodes and without, and numbers that are no sessions: nodes with such Owners stay.
func TestPurge(t *testing.T) {
	for _, c := range []struct {
		sess int64
		w    string
	}{{7, "/a/e /e /eph"}, {9, "/a/k/deep0000000000"}, {1, ""}, {8, ""}, {13, ""}, {math.MaxInt64, ""}, {7 + 1<<32, ""}, {0, ""}, {-1, ""}, {-7, ""}, {-9, ""}, {math.MinInt64, ""}} {
		x := busy(t, 5)
		before := state(x)
		want(t, fmt.Sprint("Purge of ", c.sess), purges(t, "busy", x, c.sess), c.w)
		if c.w == "" && state(x) != before {
			t.Errorf("Purge(%d) changes the tree:\n%s", c.sess, state(x))
		}
	}
	x := empty(t, 1)
	for _, sess := range []int64{1, 0, -1} {
		want(t, "an empty tree", purges(t, "an empty tree", x, sess), "")
	}
}

// P12.1: the whole tree behind a Purge, in numbers: Names, Kids and Count of the Parents, and nothing else of them.
func TestPurgeParents(t *testing.T) {
	x := busy(t, 5)
	want(t, "7", Purge(x, 7), "/a/e /e /eph")
	wantPaths(t, x, "/a", "/a/k", "/a/k/deep0000000000", "/a/s0000000002", "/have", "/have/s0000000005", "/laid", "/last", "/neg", "/un/der")
	wantNode(t, x, "/a", stat.Node{Stat: api.Stat{Made: 5, Changed: 10, Version: 1, Kids: 4, Length: 1, Count: 2}, Data: "z", Next: 3, Names: []string{"k", "s0000000002"}})
	k := stat.Node{Stat: api.Stat{Made: 6, Changed: 6, Kids: 1, Length: 1, Count: 1}, Data: "1", Next: 1, Names: []string{"deep0000000000"}}
	wantNode(t, x, "/a/k", k)
	want(t, "9", Purge(x, 9), "/a/k/deep0000000000")
	k.Kids, k.Count, k.Names = 2, 0, nil
	wantNode(t, x, "/a/k", k)
	wantNode(t, x, "/a", stat.Node{Stat: api.Stat{Made: 5, Changed: 10, Version: 1, Kids: 4, Length: 1, Count: 2}, Data: "z", Next: 3, Names: []string{"k", "s0000000002"}})
	wantNode(t, x, "/laid", with(0, "b", "d", "f"))
	wantNode(t, x, "/neg", with(-7))
	// Several of one Parent: each is counted; numbers go on; a Parent without Names may go.
	for range 3 {
		x.Do(create("/a/k/s", "", 3), 4, 30)
	}
	want(t, "4", Purge(x, 4), "/a/k/s0000000001 /a/k/s0000000002 /a/k/s0000000003")
	k.Kids, k.Next = 8, 4
	wantNode(t, x, "/a/k", k)
	if r := x.Do(create("/a/k/s", "", 3), 4, 31); r.Path != "/a/k/s0000000004" {
		t.Errorf("%s", tell(r))
	}
	Purge(x, 4)
	if r := x.Do(remove("/a/k", 0), 1, 32); r.Err != api.OK {
		t.Errorf("%s", tell(r))
	}
}

// P12.1: those with more names first, of alike ones in the order of texts, however they came and whatever their bytes are.
func TestPurgeOrder(t *testing.T) {
	w := []string{
		"/d/d/d/d/d/d/d/d", "/d/d/d/d/d/d/d", "/z/z/z/z/z/z/z", "/d/d/d/d/d/d", "/a/b/c/d/e", "/!/!/!/!", "/d/d/d/d", "/B/b/x", "/a/b/c", "/a/b/c0", "/b/B/x",
		"/!/~", "/-/x", "/a-/b", "/a/!", "/a/a0000000009", "/a/a0000000010", "/a/b", "/a0/b", "/zz/!", "/!", "/-", "/0", "/A", "/Z", "/a", "/a-", "/a0", "/aa", "/" + fill(40), "/~",
	}
	for seed := range int64(50) {
		x := empty(t, 100)
		for _, k := range rand.New(rand.NewSource(seed)).Perm(len(w)) {
			lay(t, x, w[k], with(5))
		}
		lay(t, x, "/m/m/m", with(6))
		lay(t, x, "/m", with(0))
		gone := purges(t, "any order", x, 5)
		if !slices.Equal(gone, w) {
			t.Fatalf("%q, want %q", gone, w)
		}
		wantPaths(t, x, "/m", "/m/m/m")
	}
}

// P12.1: other sessions' nodes stay, each till its own Purge.
func TestPurgeOfOthers(t *testing.T) {
	sessions := []int64{1, 2, 3, 1 << 32, 1<<32 + 1, math.MaxInt64}
	x := empty(t, 60)
	x.Do(create("/p", "", 0), 1, 1)
	x.Do(create("/p/q", "", 0), 1, 1)
	for _, up := range []string{"", "/p", "/p/q"} {
		for _, sess := range sessions {
			x.Do(create(fmt.Sprintf("%s/e%d", up, sess), "", 1), sess, 2)
		}
	}
	for i, sess := range sessions {
		want(t, fmt.Sprint(sess), purges(t, "one of many", x, sess), fmt.Sprintf("/p/q/e%d /p/e%d /e%d", sess, sess, sess))
		for _, other := range sessions[i+1:] {
			if len(x.Of(other)) != 3 {
				t.Errorf("Purge(%d): of %d there are %q", sess, other, x.Of(other))
			}
		}
	}
	wantPaths(t, x, "/p", "/p/q")
	wantNode(t, x, "/p/q", stat.Node{Stat: api.Stat{Made: 1, Changed: 1, Kids: 12}, Next: 6})
	wantNode(t, x, "/p", stat.Node{Stat: api.Stat{Made: 1, Changed: 1, Kids: 13, Count: 1}, Next: 7, Names: []string{"q"}})
}

// P12.1: an owned node with Names, as Load lays it: it goes, and what is under it stays, but what is the session's too.
func TestPurgeOfOneWithOthersUnderIt(t *testing.T) {
	x := empty(t, 30)
	lay(t, x, "/t", with(0, "e", "f", "g"))
	lay(t, x, "/t/e", with(5, "k", "m", "o"))
	lay(t, x, "/t/e/k", with(0, "x"))
	lay(t, x, "/t/e/k/x", with(5))
	lay(t, x, "/t/e/m", with(5, "y", "z"))
	lay(t, x, "/t/e/m/y", with(6, "deeper"))
	lay(t, x, "/t/e/o", with(6))
	lay(t, x, "/t/e/unknown", with(-5))
	lay(t, x, "/t/f", with(6, "w"))
	lay(t, x, "/t/f/w", with(5))
	lay(t, x, "/top", with(5, "a"))
	lay(t, x, "/top/a", leaf())
	lay(t, x, "/top/a/b", with(5, names(500)...))
	want(t, "5", purges(t, "laid", x.Copy(), 5), "/t/e/k/x /t/e/m /t/f/w /top/a/b /t/e /top")
	want(t, "5", Purge(x, 5), "/t/e/k/x /t/e/m /t/f/w /top/a/b /t/e /top")
	wantPaths(t, x, "/t", "/t/e/k", "/t/e/m/y", "/t/e/o", "/t/e/unknown", "/t/f", "/top/a")
	less := func(n stat.Node) stat.Node { n.Kids++; return n } // a Name less
	wantNode(t, x, "/t", less(with(0, "f", "g")))
	wantNode(t, x, "/t/e/k", less(with(0)))
	wantNode(t, x, "/t/e/m/y", with(6, "deeper"))
	wantNode(t, x, "/t/e/o", with(6))
	wantNode(t, x, "/t/e/unknown", with(-5))
	wantNode(t, x, "/t/f", less(with(6)))
	wantNode(t, x, "/top/a", leaf())
	if left(x) != 23 {
		t.Errorf("room for %d", left(x))
	}
	want(t, "6", purges(t, "laid", x, 6), "/t/e/m/y /t/e/o /t/f")
}

// P12.1: an owned node with Names where none can be: at the greatest depth, with the longest path; and in a full tree.
func TestPurgeOfOneWithNamesBeyondPaths(t *testing.T) {
	deep, long := strings.Repeat("/d", 8), strings.Repeat("/"+fill(39), 5)
	x := empty(t, 4)
	lay(t, x, deep, with(5, "x", "y"))
	lay(t, x, long, with(5, fill(40)))
	lay(t, x, long[:160], with(0, fill(39), "y"))
	lay(t, x, "/full", with(5, names(500)...))
	want(t, "5", purges(t, "laid", x, 5), deep+" "+long+" /full")
	w := with(0, "y")
	w.Kids++
	wantNode(t, x, long[:160], w)
	wantPaths(t, x, long[:160])
}

// P12.1: a Parent with more than MaxNodes Names, beside an owned node with Names: both are as they should be.
func TestPurgeOfMoreThanMaxNodesNames(t *testing.T) {
	x := empty(t, 20)
	lay(t, x, "/full", with(0, names(500)...))
	lay(t, x, "/e", with(5, "k"))
	lay(t, x, strings.Repeat("/d", 8), with(5, "k"))
	for i, sess := range []int64{5, 6, 5, 6} {
		if r := x.Do(create("/full/z", "", 3), sess, int64(i)); r.Err != api.OK {
			t.Fatalf("%s", tell(r))
		}
	}
	want(t, "5", purges(t, "laid", x, 5), strings.Repeat("/d", 8)+" /full/z0000000016 /full/z0000000018 /e")
	w := with(0, append(names(500), "z0000000017", "z0000000019")...)
	w.Kids, w.Next = 20, 20
	wantNode(t, x, "/full", w)
	wantPaths(t, x, "/full", "/full/z0000000017", "/full/z0000000019")
}

// P12.1: one whose Parent is not there, or has not its Name: it goes, and nothing else changes; nor is a far one touched.
func TestPurgeWithoutParents(t *testing.T) {
	x := empty(t, 20)
	lay(t, x, "/x/y/z", with(5))
	lay(t, x, "/x", with(0, "q", "y", "z"))
	lay(t, x, "/p", with(0, "q", "s"))
	lay(t, x, "/p/r", with(5, "q"))
	lay(t, x, "/p/r/q/s", with(5))
	lay(t, x, "/none", with(5))
	want(t, "5", purges(t, "laid", x, 5), "/p/r/q/s /x/y/z /p/r /none")
	wantPaths(t, x, "/p", "/x")
	wantNode(t, x, "/x", with(0, "q", "y", "z"))
	wantNode(t, x, "/p", with(0, "q", "s"))
}

// P12.1: Kids of a Parent count as Remove counts: at the greatest they stay.
func TestPurgeAtTheGreatest(t *testing.T) {
	for kids, w := range map[int]int{-1: 1, 0: 2, most - 3: most - 1, most - 2: most, most - 1: most, most: most, most + 1: most + 1, math.MaxInt: math.MaxInt, math.MinInt: math.MinInt + 2} {
		n := with(0, "a", "b", "c")
		n.Kids = kids
		x := empty(t, 3)
		lay(t, x, "/p", n)
		lay(t, x, "/p/a", with(5))
		lay(t, x, "/p/c", with(5))
		want(t, "5", purges(t, "laid", x, 5), "/p/a /p/c")
		n = with(0, "b")
		n.Kids = w
		wantNode(t, x, "/p", n)
	}
}

// P12.1: a tree of MaxNodes nodes, all of them one session's.
func TestPurgeOfAll(t *testing.T) {
	x := empty(t, 500)
	for i := range 499 {
		lay(t, x, fmt.Sprintf("/p/e%03d", 498-i), with(5, names(i)...))
	}
	lay(t, x, "/p", with(5, "e000", "e001"))
	gone := purges(t, "all", x, 5)
	if len(gone) != 500 || gone[0] != "/p/e000" || gone[498] != "/p/e498" || gone[499] != "/p" || x.Len() != 0 || left(x) != 500 {
		t.Errorf("%d, room for %d", len(gone), left(x))
	}
}

// P12.1: what a multi made goes with its session; the tree takes it again.
func TestPurgeBehindDo(t *testing.T) {
	x := empty(t, 4)
	ops := []api.Op{create("/a", "", 0), create("/a/e", "", 1), create("/a/s", "", 3), create("/f", "", 1)}
	if r, ok := Do(x, 5, 1, ops...); !ok {
		t.Fatalf("%s", tellReply(r))
	}
	want(t, "5", purges(t, "made", x, 5), "/a/e /a/s0000000001 /f")
	r, ok := Do(x, 5, 2, create("/a/e", "", 1), create("/a/s", "", 3), create("/f", "", 1))
	if !ok || r.Results[1].Path != "/a/s0000000003" || left(x) != 0 {
		t.Errorf("%s", tellReply(r))
	}
	wantNode(t, x, "/a", stat.Node{Stat: api.Stat{Made: 1, Changed: 1, Kids: 6, Count: 2}, Next: 4, Names: []string{"e", "s0000000003"}})
}

// R4: what is answered is new memory, spare room too: the tree does not change with it, nor it with the tree.
func TestPurgeAnswersAreNew(t *testing.T) {
	x := busy(t, 9)
	of := x.Of(7)
	w := slices.Clone(of)
	gone, other := Purge(x, 7), Purge(x.Copy(), 9)
	if !slices.Equal(of, w) {
		t.Errorf("Purge changes what Of answered: %q", of)
	}
	for _, s := range gone[len(gone):cap(gone)] {
		if s != "" {
			t.Errorf("%q stands behind the list", s)
		}
	}
	kept, before := slices.Clone(gone), state(x)
	x.Do(create("/e", "", 1), 7, 60)
	want(t, "another one", Purge(x, 7), "/e")
	want(t, "the first one", gone, strings.Join(kept, " "))
	ruin(gone)
	want(t, "another session's", other, "/a/k/deep0000000000")
	if state(x) != before {
		t.Errorf("the tree has the list that was answered")
	}
}

// P12.1: a copy of the tree has all that was purged of the other one.
func TestPurgeOfACopy(t *testing.T) {
	x := busy(t, 9)
	c, before := x.Copy(), state(x)
	purges(t, "a copy", c, 7)
	if state(x) != before {
		t.Errorf("a Purge of a copy changes the tree")
	}
	purges(t, "the tree", x, 7)
	if state(x) != state(c) || goesOn(x) != goesOn(c) {
		t.Errorf("they are not alike")
	}
}
