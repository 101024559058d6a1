package watch

import (
	"fmt"
	"math"
	"math/rand"
	"slices"
	"testing"

	"aviary/api"
)

// The chapter's example.
func TestExample(t *testing.T) {
	w := fresh(t, 1, one{1, "/a", 1})
	fires(t, w, "/a", 3, 0, Event{1, "/a", 3})
	fires(t, w, "/a", 3, 0)
}

// P13.1: each change against each kind, of the path itself, its Parent, one above that, ones beside and ones under it.
func TestFireOfEach(t *testing.T) {
	type heard struct{ kind, change int }
	itself := map[heard]int{{1, 1}: 1, {1, 2}: 2, {1, 3}: 3, {2, 2}: 2}
	parent := map[heard]int{{2, 1}: 4, {2, 2}: 4}
	for _, c := range []struct {
		fired, armed string
		tells        map[heard]int
	}{
		{"/a/b/c", "/a/b/c", itself}, {"/a", "/a", itself}, {deep(8), deep(8), itself}, {wide(), wide(), itself},
		{"/a/b/c", "/a/b", parent}, {"/a/b", "/a", parent}, {deep(8), deep(7), parent}, {wide(), wide()[:164], parent}, {"/a/a", "/a", parent},
		{"/a/b/c", "/a", nil}, {deep(8), deep(6), nil}, {deep(8), "/d", nil},
		{"/a/b/c", "/a/b/d", nil}, {"/a/b/c", "/a/c", nil}, {"/a/b/c", "/b", nil}, {"/a/b/c", "/a/bc", nil}, {"/a", "/b", nil}, {"/a", "/aa", nil}, {"/aa", "/a", nil},
		{"/a/bc", "/a/b", nil}, {"/ab/c", "/a", nil}, {"/A", "/a", nil}, {"/a/a", "/b/a", nil},
		{"/a/b/c", "/a/b/c/d", nil}, {"/a/b/c", "/a/b/c/d/e", nil}, {"/a", "/a/b", nil}, {"/a", "/a/a", nil}, {"/d", deep(8), nil}, {deep(7), deep(8), nil},
	} {
		for kind := 1; kind <= 2; kind++ {
			for change := 1; change <= 3; change++ {
				w := fresh(t, 3, one{5, c.armed, kind}, one{7, "/stays", 3 - kind})
				if told := c.tells[heard{kind, change}]; told != 0 {
					fires(t, w, c.fired, change, 1, Event{5, c.armed, told})
					fires(t, w, c.fired, change, 1)
					wantArmed(t, "told", w, []string{c.armed, "/stays"}, one{7, "/stays", 3 - kind})
				} else {
					fires(t, w, c.fired, change, 2)
					wantArmed(t, fmt.Sprintf("kind %d of %s, change %d of %s", kind, c.armed, change, c.fired), w, []string{c.armed, "/stays"}, one{5, c.armed, kind}, one{7, "/stays", 3 - kind})
				}
			}
		}
	}
}

// P13.1: all that hear one change, at once, and all that do not.
func TestFireOfAll(t *testing.T) {
	var list []one
	paths := []string{"/a", "/a/b", "/a/b/c", "/a/b/c/d", "/a/b/x", "/x"}
	for _, p := range paths {
		list = append(list, one{1, p, 1}, one{1, p, 2})
	}
	for change, told := range map[int][]Event{
		1: {{1, "/a/b/c", 1}, {1, "/a/b", 4}},
		2: {{1, "/a/b/c", 2}, {1, "/a/b", 4}, {1, "/a/b/c", 2}},
		3: {{1, "/a/b/c", 3}},
	} {
		w := fresh(t, len(list), list...)
		fires(t, w, "/a/b/c", change, len(list)-len(told), told...)
		wantArmed(t, fmt.Sprint("change ", change), w, paths, slices.DeleteFunc(slices.Clone(list), func(x one) bool {
			return x == one{1, "/a/b/c", 1} || change != 3 && x == one{1, "/a/b", 2} || change == 2 && x == one{1, "/a/b/c", 2}
		})...)
	}
}

// P13.1: a path of one name has no Parent: nobody else's watch of kind 2 hears of it.
func TestFireOfOneName(t *testing.T) {
	list := []one{{1, "/a", 1}, {1, "/a", 2}, {1, "/b", 1}, {1, "/b", 2}, {1, "/a/a", 1}, {1, "/a/a", 2}}
	w := fresh(t, 9, list...)
	fires(t, w, "/a", 1, 5, Event{1, "/a", 1})
	fires(t, w, "/a", 1, 5)
	arms(t, w, list[0], api.OK)
	fires(t, w, "/a", 2, 4, Event{1, "/a", 2}, Event{1, "/a", 2})
	arms(t, w, list[0], api.OK)
	fires(t, w, "/a", 3, 4, Event{1, "/a", 3})
	fires(t, w, "/c", 2, 4)
	wantArmed(t, "the rest", w, []string{"/b", "/a/a"}, list[2:]...)
}

// P13.1: gone of a path that has a watch of kind 2 of its own and one of its Parent.
func TestGone(t *testing.T) {
	for _, sess := range [][2]int64{{1, 1}, {1, 2}, {2, 1}} {
		w := fresh(t, 2, one{sess[0], "/a/b", 2}, one{sess[1], "/a", 2})
		want := []Event{{sess[1], "/a", 4}, {sess[0], "/a/b", 2}}
		if sess[0] < sess[1] {
			slices.Reverse(want)
		}
		fires(t, w, "/a/b", 3, 2)
		fires(t, w, "/a/b", 2, 0, want...)
		fires(t, w, "/a/b", 2, 0)
		w = fresh(t, 2, one{sess[0], "/a/b", 2}, one{sess[1], "/a", 2})
		fires(t, w, "/a/b", 1, 1, Event{sess[1], "/a", 4})
		fires(t, w, "/a/b", 2, 0, Event{sess[0], "/a/b", 2})
	}
	w := fresh(t, 2, one{1, "/a/b", 2}, one{1, "/a", 2})
	fires(t, w, "/a", 2, 1, Event{1, "/a", 2})
	fires(t, w, "/a/b/c", 1, 0, Event{1, "/a/b", 4})
}

// P13.1: what is told is told by sess, then the watch's kind, then its path, in whatever order it was armed.
func TestFireOrder(t *testing.T) {
	var list []one
	for _, sess := range []int64{1, 2, 9, 10, 1 << 32, math.MaxInt64} {
		for _, p := range []string{"/m", "/m/n", "/m/n/o", "/m/z"} {
			list = append(list, one{sess, p, 1}, one{sess, p, 2})
		}
	}
	for seed := range int64(60) {
		change := int(seed%3) + 1
		w := fresh(t, len(list))
		for _, k := range rand.New(rand.NewSource(seed)).Perm(len(list)) {
			arms(t, w, list[k], api.OK)
		}
		var want []Event
		for _, sess := range []int64{1, 2, 9, 10, 1 << 32, math.MaxInt64} {
			want = append(want, Event{sess, "/m/n", change})
			if change != 3 {
				want = append(want, Event{sess, "/m", 4})
			}
			if change == 2 {
				want = append(want, Event{sess, "/m/n", 2})
			}
		}
		fires(t, w, "/m/n", change, len(list)-len(want), want...)
		fires(t, w, "/m/n", change, len(list)-len(want))
	}
}

// P13.1: the kind stands ahead of the path, and the session ahead of both.
func TestFireOrderOfKinds(t *testing.T) {
	w := fresh(t, 9, one{2, "/a/b", 1}, one{2, "/a", 2}, one{1, "/a/b", 2}, one{1, "/a", 2}, one{1, "/a/b", 1})
	fires(t, w, "/a/b", 2, 0, Event{1, "/a/b", 2}, Event{1, "/a", 4}, Event{1, "/a/b", 2}, Event{2, "/a/b", 2}, Event{2, "/a", 4})
}

// P13.1: of another change, or of no path, nothing is told and nothing goes.
func TestFireOfNothing(t *testing.T) {
	list := []one{{1, "/a", 1}, {1, "/a", 2}, {2, "/a/b", 1}, {2, "/a/b", 2}}
	w := fresh(t, 4, list...)
	for _, change := range []int{0, 4, -1, -2, -3, 5, math.MaxInt, math.MinInt, 1<<32 + 1, 1<<32 + 2, 1<<32 + 3} {
		for _, p := range []string{"/a", "/a/b", "/a/b/c", "a", ""} {
			fires(t, w, p, change, 4)
		}
	}
	for _, p := range append(noPaths(), "/a/b/", "/a/b c", "/a/b/..", "/a/"+fill(41), "a/b") {
		for change := range 5 {
			fires(t, w, p, change, 4)
		}
	}
	wantArmed(t, "nothing", w, []string{"/a", "/a/b"}, list...)
}

// P13.1: where nobody waits nobody is told; what was told may be armed and told again.
func TestFireOnce(t *testing.T) {
	w := fresh(t, 1)
	for change := 1; change <= 3; change++ {
		fires(t, w, "/a", change, 0)
		for range 3 {
			arms(t, w, one{1, "/a", 1}, api.OK)
			arms(t, w, one{1, "/b", 1}, api.EFULL)
			fires(t, w, "/a", change, 0, Event{1, "/a", change})
			fires(t, w, "/a", change, 0)
		}
	}
}

// P13.1: as many as room are told at once.
func TestFireOfRoom(t *testing.T) {
	w := fresh(t, 1000)
	var want []Event
	for k := range 1000 {
		arms(t, w, one{int64(1000 - k), "/a", 1}, api.OK)
		want = append(want, Event{int64(k + 1), "/a", 2})
	}
	fires(t, w, "/a/b", 2, 1000)
	fires(t, w, "/a", 2, 0, want...)
}

// R4: what Fire answers is new memory, spare room too.
func TestFireMemory(t *testing.T) {
	w := fresh(t, 9)
	var answers [][]Event
	for round := range 4 {
		for sess := int64(1); sess <= 3; sess++ {
			arms(t, w, one{sess, fmt.Sprintf("/a%d", round), 1}, api.OK)
			arms(t, w, one{sess, "/stays", 2}, api.OK)
		}
		answers = append(answers, w.Fire(fmt.Sprintf("/a%d", round), 3))
	}
	for k, got := range answers {
		want := []Event{{1, fmt.Sprintf("/a%d", k), 3}, {2, fmt.Sprintf("/a%d", k), 3}, {3, fmt.Sprintf("/a%d", k), 3}}
		if !slices.Equal(got, want) {
			t.Errorf("answer %d is %v by now, want %v", k, got, want)
		}
		for i, e := range got[:cap(got)] {
			if i >= len(got) && e != (Event{}) {
				t.Errorf("answer %d has %v in its spare room", k, e)
			}
		}
		clear(got)
		_ = append(got, Event{99, "/z", 9})
	}
	wantArmed(t, "the rest", w, []string{"/stays"}, one{1, "/stays", 2}, one{2, "/stays", 2}, one{3, "/stays", 2})
}
