package watch

import (
	"fmt"
	"math"
	"testing"

	"aviary/api"
)

// P13.1: which room New takes; without it there is nothing.
func TestNew(t *testing.T) {
	for _, room := range []int{0, -1, -1000, 1001, 1002, 1 << 32, 1<<32 + 1, math.MaxInt, math.MinInt, math.MinInt + 1} {
		if w, e := New(room); w != nil || e != api.EARG {
			t.Errorf("New(%d): %v, %d", room, w, e)
		}
	}
	for _, room := range []int{1, 2, 999, 1000} {
		w := fresh(t, room)
		fires(t, w, "/a", 1, 0)
		drops(t, w, 1, 0, 0)
		for _, x := range many(room) {
			arms(t, w, x, api.OK)
		}
		arms(t, w, one{1, "/past", 1}, api.EFULL)
		if w.Len() != room {
			t.Errorf("New(%d): %d are armed", room, w.Len())
		}
	}
}

// P13.1: what one is told another does not know.
func TestApart(t *testing.T) {
	a, b := fresh(t, 2, one{1, "/a", 1}), fresh(t, 2, one{1, "/a", 1}, one{2, "/a", 1})
	fires(t, a, "/a", 3, 0, Event{1, "/a", 3})
	drops(t, b, 1, 1, 1)
	arms(t, a, one{3, "/a", 1}, api.OK)
	fires(t, b, "/a", 3, 0, Event{2, "/a", 3})
	fires(t, a, "/a", 3, 0, Event{3, "/a", 3})
}

// P13.1: what Arm refuses as EARG, whatever else applies; nothing is armed by it.
func TestArmOfWhatMayNot(t *testing.T) {
	bad := []one{
		{0, "/a", 1}, {-1, "/a", 1}, {-1, "/a", 2}, {math.MinInt64, "/a", 1}, {0, "/q", 2},
		{1, "/a", 0}, {1, "/a", 3}, {1, "/a", -1}, {1, "/a", -2}, {1, "/a", 4}, {1, "/a", math.MaxInt}, {1, "/a", math.MinInt}, {1, "/a", 1<<32 + 1}, {1, "/a", 1<<32 + 2},
		{0, "a", 1}, {0, "/a", 3}, {1, "a", 3}, {0, "", 0},
	}
	for _, p := range noPaths() {
		bad = append(bad, one{1, p, 1}, one{1, p, 2})
	}
	for what, list := range map[string][]one{"none": nil, "some": {{1, "/a", 1}}, "room": {{1, "/a", 1}, {1, "/a", 2}, {2, "/q", 1}}} {
		w := fresh(t, 3, list...)
		for _, x := range bad {
			arms(t, w, x, api.EARG)
			if w.Len() != len(list) {
				t.Fatalf("%s are armed: %d behind %v", what, w.Len(), x)
			}
		}
		wantArmed(t, what, w, []string{"/a", "/q"}, list...)
	}
}

// P13.1: Arm at the edges of what may be.
func TestArmAtTheEdges(t *testing.T) {
	paths := []string{"/a", "/" + fill(40), deep(8), wide(), "/!", "/~", "/..."}
	var list []one
	for _, p := range paths {
		for _, sess := range []int64{1, 2, math.MaxInt64 - 1, math.MaxInt64} {
			list = append(list, one{sess, p, 1}, one{sess, p, 2})
		}
	}
	w := fresh(t, len(list), list...)
	wantArmed(t, "the edges", w, paths, list...)
}

// P13.1: what is armed already is OK, also where room are armed, and is armed once.
func TestArmAgain(t *testing.T) {
	list := []one{{2, "/a", 1}, {1, "/a", 1}, {2, "/a", 2}, {2, "/b", 1}, {1, "/a/b", 2}}
	for _, room := range []int{5, 6, 1000} {
		w := fresh(t, room, list...)
		for range 3 {
			for _, x := range list {
				arms(t, w, x, api.OK)
			}
		}
		if w.Len() != 5 {
			t.Errorf("of room %d: %d are armed", room, w.Len())
		}
		fires(t, w, "/a", 3, 3, Event{1, "/a", 3}, Event{2, "/a", 3})
		fires(t, w, "/a", 3, 3)
		wantArmed(t, "again", w, []string{"/a", "/b", "/a/b"}, list[2:]...)
	}
}

// P13.1: one more than room is EFULL, and changes nothing; where one goes there is room again.
func TestArmPastRoom(t *testing.T) {
	for _, room := range []int{1, 2, 3, 14, 999, 1000} {
		list := many(room)
		w := fresh(t, room, list...)
		for _, x := range []one{{8, "/m0", 1}, {8, "/m0", 2}, {1, "/z", 1}, {1, "/!", 2}, {math.MaxInt64, "/m0/m", 1}} {
			arms(t, w, x, api.EFULL)
			arms(t, w, list[0], api.OK)
			arms(t, w, list[room-1], api.OK)
		}
		for k := range room/14 + 1 {
			w.Fire(fmt.Sprintf("/m%d/none", k), 3)
		}
		if w.Len() != room {
			t.Errorf("of room %d: %d are armed", room, w.Len())
		}
		told := len(w.Fire("/m0", 3))
		for k := range told {
			arms(t, w, one{int64(100 + k), "/new", 2}, api.OK)
		}
		arms(t, w, list[0], api.EFULL)
		freed := w.Drop(100)
		arms(t, w, list[0], api.OK)
		arms(t, w, one{100, "/new", 2}, api.EFULL)
		if told == 0 || freed != 1 || w.Len() != room {
			t.Errorf("of room %d: %d were told, %d dropped, %d are armed", room, told, freed, w.Len())
		}
	}
}

// P13.1: the same path by other sessions and by the other kind are watches of their own.
func TestArmBeside(t *testing.T) {
	w := fresh(t, 4, one{3, "/a", 1}, one{1, "/a", 2}, one{1, "/a", 1}, one{2, "/a", 1})
	arms(t, w, one{2, "/a", 2}, api.EFULL)
	fires(t, w, "/a", 3, 1, Event{1, "/a", 3}, Event{2, "/a", 3}, Event{3, "/a", 3})
	arms(t, w, one{2, "/a", 2}, api.OK)
	fires(t, w, "/a/k", 1, 0, Event{1, "/a", 4}, Event{2, "/a", 4})
}

// P13.1: one may wait for a node that is not there, for no node is asked for: till it is made, and under it, and gone.
func TestArmOfNoNode(t *testing.T) {
	w := fresh(t, 3, one{1, "/no/such", 1}, one{1, "/no/such", 2}, one{2, "/no", 2})
	fires(t, w, "/no", 1, 3)
	fires(t, w, "/no/such", 1, 1, Event{1, "/no/such", 1}, Event{2, "/no", 4})
	fires(t, w, "/no/such/one", 1, 0, Event{1, "/no/such", 4})
	arms(t, w, one{1, "/no/such", 2}, api.OK)
	fires(t, w, "/no/such", 2, 0, Event{1, "/no/such", 2})
}

// P13.1: Drop lets all of a session's go, tells how many, and leaves the others'.
func TestDrop(t *testing.T) {
	list := []one{{2, "/a", 1}, {1, "/a", 1}, {3, "/b", 2}, {2, "/a", 2}, {3, "/a", 2}, {2, "/b/c", 1}, {math.MaxInt64, "/a", 1}}
	paths := []string{"/a", "/b", "/b/c"}
	for _, c := range []struct {
		sess int64
		n    int
	}{{0, 0}, {-1, 0}, {-2, 0}, {math.MinInt64, 0}, {4, 0}, {1 << 32, 0}, {1<<32 + 1, 0}, {math.MaxInt64 - 1, 0}, {1, 1}, {2, 3}, {3, 2}, {math.MaxInt64, 1}} {
		w := fresh(t, 7, list...)
		drops(t, w, c.sess, c.n, 7-c.n)
		drops(t, w, c.sess, 0, 7-c.n)
		var left []one
		for _, x := range list {
			if x.sess != c.sess {
				left = append(left, x)
			}
		}
		wantArmed(t, fmt.Sprint("Drop of ", c.sess), w, paths, left...)
	}
	w := fresh(t, 7, list...)
	drops(t, w, 2, 3, 4)
	fires(t, w, "/a", 3, 2, Event{1, "/a", 3}, Event{math.MaxInt64, "/a", 3})
	for k := range 5 {
		arms(t, w, one{2, fmt.Sprintf("/k%d", k), 1}, api.OK)
	}
	arms(t, w, one{2, "/k5", 1}, api.EFULL)
	drops(t, w, 2, 5, 2)
	drops(t, w, 3, 2, 0)
	drops(t, w, 3, 0, 0)
}

// P13.1: all that room lets be armed goes with one session.
func TestDropOfAll(t *testing.T) {
	w := fresh(t, 1000)
	for k := range 500 {
		arms(t, w, one{5, fmt.Sprintf("/k%d", k), 1}, api.OK)
		arms(t, w, one{5, fmt.Sprintf("/k%d", k), 2}, api.OK)
	}
	arms(t, w, one{5, "/past", 1}, api.EFULL)
	drops(t, w, 6, 0, 1000)
	drops(t, w, 5, 1000, 0)
	arms(t, w, one{5, "/past", 1}, api.OK)
	drops(t, w, 5, 1, 0)
}
