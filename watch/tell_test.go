package watch

import (
	"cmp"
	"fmt"
	"slices"
	"strings"
	"testing"

	"aviary/api"
)

// one is what Arm is asked.
type one struct {
	sess int64
	p    string
	kind int
}

// fresh makes Watches with these armed.
func fresh(t testing.TB, room int, list ...one) *Watches {
	t.Helper()
	w, e := New(room)
	if w == nil || e != api.OK {
		t.Fatalf("New(%d): %v, %d", room, w, e)
	}
	for _, x := range list {
		arms(t, w, x, api.OK)
	}
	if w.Len() != len(list) {
		t.Fatalf("Len: %d of %d", w.Len(), len(list))
	}
	return w
}

// arms asks what Arm answers.
func arms(t testing.TB, w *Watches, x one, want api.Errno) {
	t.Helper()
	if e := w.Arm(x.sess, x.p, x.kind); e != want {
		t.Errorf("Arm(%d, %.60q, %d): %d, want %d", x.sess, x.p, x.kind, e, want)
	}
}

// fires asks what Fire tells, and how many are armed then.
func fires(t testing.TB, w *Watches, p string, change, left int, want ...Event) {
	t.Helper()
	if got := w.Fire(p, change); !slices.Equal(got, want) {
		t.Errorf("Fire(%.60q, %d): %v, want %v", p, change, got, want)
	}
	if w.Len() != left {
		t.Errorf("behind Fire(%.60q, %d): %d are armed, want %d", p, change, w.Len(), left)
	}
}

// drops asks how many go, and how many are armed then.
func drops(t testing.TB, w *Watches, sess int64, want, left int) {
	t.Helper()
	if n := w.Drop(sess); n != want || w.Len() != left {
		t.Errorf("Drop(%d): %d, and %d are armed; want %d, %d", sess, n, w.Len(), want, left)
	}
}

// armed tells by Fire alone what was armed of these paths, in order. What was armed is so no more.
func armed(w *Watches, paths ...string) []one {
	var list []one
	for _, p := range paths {
		for _, e := range w.Fire(p, 3) {
			list = append(list, one{e.Sess, e.Path, 1})
		}
	}
	for _, p := range paths {
		for _, e := range w.Fire(p, 2) {
			list = append(list, one{e.Sess, e.Path, 2})
		}
	}
	slices.SortFunc(list, byAll)
	return list
}

// wantArmed asks that just these are armed, all of them of these paths. Nothing is armed then.
func wantArmed(t testing.TB, what string, w *Watches, paths []string, want ...one) {
	t.Helper()
	want = slices.Clone(want)
	slices.SortFunc(want, byAll)
	if w.Len() != len(want) {
		t.Errorf("%s: %d are armed, want %v", what, w.Len(), want)
	}
	if got := armed(w, paths...); !slices.Equal(got, want) || w.Len() != 0 {
		t.Errorf("%s: armed were %v, want %v; %d are left", what, got, want, w.Len())
	}
}

// byAll puts what was armed in one order.
func byAll(a, b one) int {
	return cmp.Or(cmp.Compare(a.sess, b.sess), cmp.Compare(a.kind, b.kind), strings.Compare(a.p, b.p))
}

// many makes n that part from each other.
func many(n int) []one {
	var list []one
	for k := range n {
		list = append(list, one{int64(k%7 + 1), fmt.Sprintf("/m%d", k/14), k/7%2 + 1})
	}
	return list
}

// fill makes a text of n bytes.
func fill(n int) string { return strings.Repeat("x", n) }

// deep makes a path of n names.
func deep(n int) string { return strings.Repeat("/d", n) }

// wide makes the longest path, and wider one that is a byte longer.
func wide() string  { return strings.Repeat("/"+fill(api.MaxName), 4) + "/" + fill(35) }
func wider() string { return wide() + "x" }

// noPaths are texts that are no paths.
func noPaths() []string {
	return []string{"", "/", "//", "a", "a/b", "/a/", "//a", "/a//b", "/.", "/..", "/a/.", "/a/..", "/a b", "/a\n", "/\x00", "/a\x7f", "/é",
		"/" + fill(41), deep(9), wider(), "/" + fill(1<<20), strings.Repeat("/", 1<<20)}
}
