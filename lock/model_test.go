package lock

import (
	"math"
	"math/rand"
	"strings"
	"testing"
)

// model is the chapter's words, one by one: whose each path is.
type model map[string]int64

// good tells whether a text is a path, by chapter 1's words.
func good(p string) bool {
	if len(p) > 200 {
		return false
	}
	names := strings.Split(p, "/")
	if len(names) < 2 || len(names) > 9 || names[0] != "" {
		return false
	}
	for _, name := range names[1:] {
		if len(name) < 1 || len(name) > 40 || name == "." || name == ".." {
			return false
		}
		for _, c := range []byte(name) {
			if c < 33 || c > 126 {
				return false
			}
		}
	}
	return true
}

// isParent tells whether a path is another's Parent.
func isParent(parent, p string) bool {
	below, under := strings.CutPrefix(p, parent+"/")
	return under && !strings.Contains(below, "/")
}

func (m model) blocks(who int64, p string) bool {
	for other, holder := range m {
		if good(p) && holder != who && (other == p || isParent(other, p) || isParent(p, other)) {
			return true
		}
	}
	return false
}

func (m model) take(who int64, paths ...string) (string, bool) {
	for _, p := range paths {
		if !good(p) {
			return p, false
		}
	}
	for _, p := range paths {
		if m.blocks(who, p) {
			return p, false
		}
	}
	for _, p := range paths {
		m[p] = who
	}
	return "", true
}

func (m model) free(who int64) int {
	n := 0
	for p, holder := range m {
		if holder == who {
			delete(m, p)
			n++
		}
	}
	return n
}

// somePaths has some in each place to each other: above, below, beside, far off, and such as only begin alike.
func somePaths() []string {
	return []string{
		"/a", "/a/b", "/a/c", "/a/b/c", "/a/b/d", "/a/b/c/d", "/a/b/c/d/e", "/b", "/b/a", "/b/a/a", "/ab", "/ab/c", "/a-", "/a-/b", "/a0/b",
		"/1/2/3/4/5/6", "/1/2/3/4/5/6/7", "/1/2/3/4/5/6/7/8", longest, long, "/" + name40, "/" + name40 + "/" + name40,
	}
}

// longest is a path of just 200 bytes, long is its Parent.
const (
	name40  = "0123456789012345678901234567890123456789"
	long    = "/" + name40 + "/" + name40 + "/" + name40 + "/" + name40
	longest = long + "/" + "01234567890123456789012345678901234"
)

// noPaths are texts that are none.
func noPaths() []string {
	return []string{
		"", "/", "//", "a", "a/b", "/a/", "//a", "/a//b", "/.", "/..", "/./a", "/a/..", " /a", "/a b", "/ ", "/a\n", "/\x00", "/a\x7f", "/\x80", "/a/\xff", "/é", "\\a",
		"/1/2/3/4/5/6/7/8/9", longest + "0", "/" + name40 + "0", "/a/" + name40 + "0",
	}
}

// numbers are those of who, up to the ends of what there is.
func numbers() []int64 {
	return []int64{0, 1, 2, 3, -1, -2, math.MaxInt64, math.MinInt64, 1 << 32, 1<<32 + 1, math.MinInt64 + 1}
}

// holds holds all that is told against the model.
func holds(t *testing.T, what string, l *Locks, m model) {
	t.Helper()
	if l.Len() != len(m) {
		t.Fatalf("%s: Len: %d, want %d", what, l.Len(), len(m))
	}
	for _, p := range append(somePaths(), noPaths()...) {
		want, there := m[p]
		if who, held := l.Held(p); who != want || held != there {
			t.Fatalf("%s: Held(%.210q): %d %t, want %d %t", what, p, who, held, want, there)
		}
		for _, who := range numbers() {
			if got := l.Blocks(who, p); got != m.blocks(who, p) {
				t.Fatalf("%s: Blocks(%d, %.210q): %t", what, who, p, got)
			}
		}
	}
}

// takes holds what Take answers, and all that is told behind it, against the model.
func takes(t *testing.T, what string, l *Locks, m model, who int64, paths ...string) bool {
	t.Helper()
	told, want := m.take(who, paths...)
	if p, ok := l.Take(who, paths...); p != told || ok != want {
		t.Fatalf("%s: Take(%d, %.300q): %.210q %t, want %.210q %t", what, who, paths, p, ok, told, want)
	}
	holds(t, what, l, m)
	return want
}

// frees holds what Free answers, and all that is told behind it, against the model.
func frees(t *testing.T, what string, l *Locks, m model, who int64) {
	t.Helper()
	want := m.free(who)
	if got := l.Free(who); got != want {
		t.Fatalf("%s: Free(%d): %d, want %d", what, who, got, want)
	}
	holds(t, what, l, m)
}

// P17.1: long runs of all calls answer as the chapter's words do.
func TestAgainstModel(t *testing.T) {
	paths, bad, whos := somePaths(), noPaths(), numbers()
	taken, refused := 0, 0
	for seed := range int64(60) {
		r := rand.New(rand.NewSource(seed))
		l, m := New(), model{}
		few := whos[:2+r.Intn(len(whos)-1)]
		for range 60 {
			who := few[r.Intn(len(few))]
			if r.Intn(4) == 0 {
				frees(t, "a run", l, m, who)
				continue
			}
			var list []string
			for range r.Intn(4) {
				list = append(list, paths[r.Intn(len(paths))])
			}
			if r.Intn(6) == 0 {
				list = append(list, bad[r.Intn(len(bad))])
				r.Shuffle(len(list), func(i, j int) { list[i], list[j] = list[j], list[i] })
			}
			if takes(t, "a run", l, m, who, list...) {
				taken++
			} else {
				refused++
			}
		}
		for _, who := range whos {
			frees(t, "the end of a run", l, m, who)
		}
		wantNothingKept(t, l)
	}
	if taken < 500 || refused < 500 {
		t.Errorf("the runs take %d times, and are refused %d times: too few", taken, refused)
	}
}

// wantNothingKept holds that of paths that went nothing is left.
func wantNothingKept(t *testing.T, l *Locks) {
	t.Helper()
	if kept := len(l.held) + len(l.own) + len(l.under) + len(l.shares); kept != 0 {
		t.Errorf("of paths that went %d things are kept", kept)
	}
}
