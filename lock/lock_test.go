package lock

import (
	"math"
	"slices"
	"strconv"
	"strings"
	"testing"
)

// answers holds what Take answers, and how many are held behind it.
func answers(t *testing.T, l *Locks, told string, ok bool, n int, who int64, paths ...string) {
	t.Helper()
	if p, took := l.Take(who, paths...); p != told || took != ok || l.Len() != n {
		t.Errorf("Take(%d, %.300q): %.210q %t, %d are held; want %.210q %t, %d", who, paths, p, took, l.Len(), told, ok, n)
	}
}

// held holds whose a path is.
func held(t *testing.T, l *Locks, p string, who int64, ok bool) {
	t.Helper()
	if got, there := l.Held(p); got != who || there != ok {
		t.Errorf("Held(%.210q): %d %t, want %d %t", p, got, there, who, ok)
	}
}

// blocks holds for whom a path is blocked.
func blocks(t *testing.T, l *Locks, who int64, p string, want bool) {
	t.Helper()
	if got := l.Blocks(who, p); got != want {
		t.Errorf("Blocks(%d, %.210q): %t", who, p, got)
	}
}

// lets holds how many Free lets go, and how many are held behind it.
func lets(t *testing.T, l *Locks, who int64, gone, n int) {
	t.Helper()
	if got := l.Free(who); got != gone || l.Len() != n {
		t.Errorf("Free(%d): %d, %d are held; want %d, %d", who, got, l.Len(), gone, n)
	}
}

// The chapter's example.
func TestExample(t *testing.T) {
	l := New()
	answers(t, l, "", true, 1, 1, "/a/b")
	blocks(t, l, 2, "/a", true)
}

// P17.1: of a new one nothing is held, and what one is told another does not know.
func TestNew(t *testing.T) {
	a, b := New(), New()
	holds(t, "a new one", a, model{})
	for _, who := range numbers() {
		lets(t, a, who, 0, 0)
	}
	answers(t, a, "", true, 2, 1, "/a", "/a/b")
	holds(t, "another", b, model{})
	answers(t, b, "", true, 1, 2, "/a/b")
	lets(t, b, 2, 1, 0)
	held(t, a, "/a/b", 1, true)
}

// P17.1: Take of no path at all takes none, whoever asks.
func TestTakeNothing(t *testing.T) {
	l := New()
	for n := range 2 {
		for _, who := range numbers() {
			answers(t, l, "", true, n, who)
			answers(t, l, "", true, n, who, []string{}...)
		}
		if len(l.own) != n {
			t.Errorf("%d hold something, want %d", len(l.own), n)
		}
		answers(t, l, "", true, 1, 1, "/a")
	}
}

// P17.1: Take of one, of several, of one twice, of one's own, by whatever number.
func TestTakeWhatIsFree(t *testing.T) {
	for _, who := range numbers() {
		l := New()
		answers(t, l, "", true, 1, who, "/a")
		answers(t, l, "", true, 3, who, "/b", "/c/d")
		answers(t, l, "", true, 4, who, "/e", "/e")
		answers(t, l, "", true, 4, who, "/e", "/a", "/c/d", "/b", "/a")
		answers(t, l, "", true, 6, who, "/a", "/f", "/e", "/g", "/f")
		answers(t, l, "", true, 9, who, "/a/b/c", "/a/b", "/c")
		for _, p := range []string{"/a", "/b", "/c", "/c/d", "/e", "/f", "/g", "/a/b", "/a/b/c"} {
			held(t, l, p, who, true)
			blocks(t, l, who, p, false)
			blocks(t, l, who+1, p, true)
		}
		lets(t, l, who, 9, 0)
		wantNothingKept(t, l)
	}
}

// P17.1: Take takes every path, up to the longest and the deepest.
func TestTakeEveryPath(t *testing.T) {
	l, m := New(), model{}
	takes(t, "all at once", l, m, 1, somePaths()...)
	takes(t, "all again", l, m, 1, somePaths()...)
	lets(t, l, 1, len(somePaths()), 0)
	for _, p := range somePaths() {
		takes(t, "one", New(), model{}, -1, p)
	}
}

// P17.1: a text that is no path is told, the first of them, also behind a path that is blocked; nothing is taken.
func TestTakeNoPath(t *testing.T) {
	l, m := New(), model{}
	takes(t, "first", l, m, 1, "/a/b", "/x")
	for _, none := range append(noPaths(), strings.Repeat("/a", 1<<16)) {
		for _, list := range [][]string{
			{none}, {none, none}, {none, "/a"}, {"/q", none}, {none, "/q"}, {"/q", none, "/r"}, {none, "none", "/q"}, {"/q", none, "/a", ""},
			{"/a", none}, {"/a/b", "/x", none}, {"/q", "/a", "/r", none, "/x"}, {"/x/y", "/q", none, "//"},
		} {
			for _, who := range []int64{0, 1, 2, -1} {
				answers(t, l, none, false, 2, who, list...)
			}
		}
	}
	holds(t, "behind what was refused", l, m)
	held(t, l, "/q", 0, false)
	blocks(t, l, 9, "/q", false)
	blocks(t, l, 9, "/q/r", false)
	answers(t, l, "", true, 3, 9, "/q")
}

// P17.1: where all are paths the first that is blocked is told; nothing is taken.
func TestTakeWhatIsBlocked(t *testing.T) {
	for _, c := range []struct {
		told  string
		paths []string
	}{
		{"/a/b", []string{"/a/b"}}, {"/a", []string{"/a"}}, {"/a/b/c", []string{"/a/b/c"}}, {"/x", []string{"/x"}}, {"/x/y", []string{"/x/y"}},
		{"/a", []string{"/a", "/a/b"}}, {"/a/b", []string{"/a/b", "/a"}}, {"/a/b/c", []string{"/q", "/a/b/c", "/a/b", "/x"}},
		{"/x", []string{"/q", "/r/s", "/x", "/a"}}, {"/a", []string{"/q", "/a"}}, {"/a", []string{"/a", "/q"}}, {"/x/y", []string{"/q", "/q", "/x/y", "/x/y"}},
		{"/a", []string{"/m", "/q", "/a"}}, {"/a/b", []string{"/m", "/m/n", "/a/b", "/m/o"}},
	} {
		l, m := New(), model{}
		takes(t, "first", l, m, 1, "/a/b", "/x")
		takes(t, "second", l, m, 2, "/m")
		answers(t, l, c.told, false, 3, 2, c.paths...)
		holds(t, "behind what was refused", l, m)
		for _, p := range []string{"/q", "/q/1", "/r", "/r/s"} {
			held(t, l, p, 0, false)
			blocks(t, l, 1, p, false)
			blocks(t, l, 3, p, false)
		}
		answers(t, l, "", true, 5, 1, "/q", "/r/s")
		lets(t, l, 2, 1, 4)
		lets(t, l, 1, 4, 0)
		wantNothingKept(t, l)
	}
}

// P17.1: who holds one path blocks it, its Parent, and what it is the Parent of, for others; nothing else, and not for
// itself.
func TestBlocksAndTake(t *testing.T) {
	for _, c := range []struct {
		holds, wants string
		blocked      bool
	}{
		{"/a/b", "/a/b", true}, {"/a/b", "/a", true}, {"/a/b", "/a/b/c", true}, {"/a", "/a", true}, {"/a", "/a/b", true},
		{"/a/b/c", "/a", false}, {"/a", "/a/b/c", false}, {"/a/b/c/d", "/a/b", false}, {"/a/b", "/a/b/c/d", false}, // one further up, or down
		{"/a/b", "/a/c", false}, {"/a/b", "/a/a", false}, {"/a", "/b", false}, {"/a/b", "/a/c/b", false}, {"/a/b", "/b", false}, // beside it
		{"/a", "/ab", false}, {"/ab", "/a", false}, {"/a", "/ab/c", false}, {"/ab/c", "/a", false}, {"/a/b", "/a/bc", false}, {"/a/b", "/a/bc/d", false}, {"/a/b", "/a/b-", false}, {"/a", "/A", false},
		{"/1/2/3/4/5/6/7/8", "/1/2/3/4/5/6/7/8", true}, {"/1/2/3/4/5/6/7/8", "/1/2/3/4/5/6/7", true}, {"/1/2/3/4/5/6/7", "/1/2/3/4/5/6/7/8", true}, {"/1/2/3/4/5/6/7/8", "/1/2/3/4/5/6", false}, {"/1", "/1/2/3/4/5/6/7/8", false},
		{longest, longest, true}, {longest, long, true}, {long, longest, true}, {longest, "/" + name40, false},
	} {
		for _, holder := range numbers() {
			for _, who := range numbers() {
				l, want, told, n := New(), c.blocked && who != holder, "", 2
				answers(t, l, "", true, 1, holder, c.holds)
				blocks(t, l, who, c.wants, want)
				if want {
					told, n = c.wants, 1
				} else if c.holds == c.wants {
					n = 1
				}
				answers(t, l, told, !want, n, who, c.wants)
				held(t, l, c.holds, holder, true)
			}
		}
	}
}

// P17.1: what is no path is held by nobody and blocked for nobody, also beside paths that are held.
func TestNoPathIsFree(t *testing.T) {
	l := New()
	for range 2 {
		for _, p := range append(noPaths(), strings.Repeat("/a", 1<<16), strings.Repeat("a", 1<<16)) {
			held(t, l, p, 0, false)
			for _, who := range numbers() {
				blocks(t, l, who, p, false)
			}
		}
		l.Take(5, "/a", "/a/b", "/1/2/3/4/5/6/7/8", longest, "/b/c")
	}
}

// P17.1: Held tells a path's own holder, not that of its Parent, nor of one under it.
func TestHeld(t *testing.T) {
	l := New()
	answers(t, l, "", true, 1, 7, "/a/b")
	answers(t, l, "", true, 2, 0, "/z")
	answers(t, l, "", true, 3, math.MinInt64, "/a/c")
	held(t, l, "/a/b", 7, true)
	held(t, l, "/z", 0, true)
	held(t, l, "/a/c", math.MinInt64, true)
	for _, p := range []string{"/a", "/a/b/c", "/a/d", "/z/y", "/b", "/q", "a/b", "/a/b/", "/", ""} {
		held(t, l, p, 0, false)
	}
}

// P17.1: several hold paths right under one: it is blocked for each of them, and for others, till all of those that are
// not one's own went.
func TestHoldersUnderOne(t *testing.T) {
	l := New()
	answers(t, l, "", true, 2, 1, "/a/b", "/a/c")
	answers(t, l, "", true, 3, 2, "/a/d")
	answers(t, l, "", true, 3, 1, "/a/b", "/a/b")
	for _, who := range []int64{1, 2, 3} {
		blocks(t, l, who, "/a", true)
		answers(t, l, "/a", false, 3, who, "/a")
	}
	lets(t, l, 1, 2, 1)
	blocks(t, l, 1, "/a", true)
	blocks(t, l, 2, "/a", false)
	blocks(t, l, 3, "/a", true)
	answers(t, l, "", true, 2, 2, "/a")
	answers(t, l, "/a/b", false, 2, 1, "/a/b")
	lets(t, l, 2, 2, 0)
	answers(t, l, "", true, 1, 1, "/a")
	answers(t, l, "/a/d", false, 1, 2, "/a/d")
}

// P17.1: Free lets all of one's go, none of the others'; what went is free, and so is what stands by it.
func TestFree(t *testing.T) {
	l, m := New(), model{}
	takes(t, "first", l, m, 1, "/a/b", "/a/c", "/b")
	takes(t, "second", l, m, 2, "/a-/b", "/ab", "/b/a/a")
	takes(t, "third", l, m, 0, "/a/b/c/d")
	for _, who := range []int64{3, -1, math.MaxInt64, math.MinInt64} {
		lets(t, l, who, 0, 7)
	}
	holds(t, "behind nothing", l, m)
	frees(t, "the first", l, m, 1)
	lets(t, l, 1, 0, 4)
	for _, p := range []string{"/a", "/a/b", "/a/c", "/b", "/a/c/d"} {
		held(t, l, p, 0, false)
		blocks(t, l, 2, p, false)
		blocks(t, l, 1, p, false)
	}
	takes(t, "what went", l, m, 2, "/a", "/a/b", "/b", "/b/a")
	takes(t, "what is another's", l, m, 1, "/b")
	frees(t, "the third", l, m, 0)
	frees(t, "the second", l, m, 2)
	takes(t, "all again", l, m, 1, somePaths()...)
	frees(t, "all", l, m, 1)
	wantNothingKept(t, l)
}

// P17.1: a path that was taken twice goes once, and one that was refused does not go.
func TestFreeCounts(t *testing.T) {
	l := New()
	answers(t, l, "", true, 1, 1, "/a/b", "/a/b", "/a/b")
	answers(t, l, "", true, 1, 1, "/a/b")
	answers(t, l, "/a", false, 1, 2, "/c", "/a")
	answers(t, l, "none", false, 1, 2, "/c", "none")
	lets(t, l, 2, 0, 1)
	lets(t, l, 1, 1, 0)
	blocks(t, l, 2, "/a", false)
	lets(t, l, 1, 0, 0)
	answers(t, l, "", true, 1, 2, "/a")
	lets(t, l, 1, 0, 1)
	lets(t, l, 2, 1, 0)
}

// R3: Held, Blocks and Len change nothing.
func TestAskingChangesNothing(t *testing.T) {
	l, m := New(), model{}
	takes(t, "first", l, m, 1, "/a/b", "/b")
	for range 3 {
		holds(t, "asked", l, m)
	}
	lets(t, l, 1, 2, 0)
	wantNothingKept(t, l)
}

// R4: Take neither changes nor keeps the list that it is handed, spare room included.
func TestTakeLeavesItsList(t *testing.T) {
	for _, who := range []int64{1, 2} {
		l, m := New(), model{}
		takes(t, "first", l, m, 1, "/a")
		whole := []string{"/b", "/b", "/a", "/c", "/spare", "/spare"}
		before := slices.Clone(whole)
		list := whole[:4]
		takes(t, "a list", l, m, who, list...)
		if !slices.Equal(whole, before) {
			t.Errorf("Take has made %q of the list", whole)
		}
		for i := range whole {
			whole[i] = "/b/a"
		}
		holds(t, "behind another list", l, m)
		frees(t, "behind another list", l, m, who)
	}
}

// P17.1: as many as may come: one list of them, and one by one, right under one path.
func TestMany(t *testing.T) {
	const n = 50000
	l := New()
	var list []string
	for i := range n {
		list = append(list, "/a/"+strconv.Itoa(i))
	}
	answers(t, l, "", true, n, 1, list...)
	for _, p := range list {
		blocks(t, l, 1, "/a", false)
		blocks(t, l, 2, "/a", true)
		held(t, l, p, 1, true)
	}
	answers(t, l, list[0], false, n, 2, list...)
	lets(t, l, 1, n, 0)
	for i, p := range list {
		answers(t, l, "", true, i+1, int64(i), p)
	}
	for i := range list {
		lets(t, l, int64(i), 1, n-1-i)
	}
	wantNothingKept(t, l)
}
