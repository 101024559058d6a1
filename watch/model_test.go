package watch

import (
	"math/rand"
	"slices"
	"testing"

	"aviary/api"
	"aviary/path"
)

// model is the chapter's words, one by one, with all that is armed in no order.
type model struct {
	room  int
	armed map[one]struct{}
}

func (m *model) arm(x one) api.Errno {
	if x.sess < 1 || !path.Good(x.p) || x.kind != 1 && x.kind != 2 {
		return api.EARG
	}
	if _, there := m.armed[x]; there {
		return api.OK
	}
	if len(m.armed) == m.room {
		return api.EFULL
	}
	m.armed[x] = struct{}{}
	return api.OK
}

func (m *model) fire(p string, change int) []Event {
	if change != 1 && change != 2 && change != 3 || !path.Good(p) {
		return nil
	}
	parent, has := path.Parent(p)
	told := make(map[one]int)
	for x := range m.armed {
		if x.kind == 1 && x.p == p {
			told[x] = change
		}
		if x.kind == 2 && (change == 1 || change == 2) && has && x.p == parent {
			told[x] = 4
		}
		if x.kind == 2 && change == 2 && x.p == p {
			told[x] = change
		}
	}
	var list []one
	for x := range told {
		list = append(list, x)
		delete(m.armed, x)
	}
	slices.SortFunc(list, byAll)
	var events []Event
	for _, x := range list {
		events = append(events, Event{x.sess, x.p, told[x]})
	}
	return events
}

func (m *model) drop(sess int64) int {
	n := 0
	for x := range m.armed {
		if x.sess == sess {
			delete(m.armed, x)
			n++
		}
	}
	return n
}

// P13.1: long runs of all calls answer as the chapter's words do.
func TestAgainstModel(t *testing.T) {
	paths := []string{"/a", "/a/b", "/a/b/c", "/a/c", "/b", "/b/a", "/ab", "/a-", "/a-/b", "/", "a", "/a/", ""}
	for seed := range int64(200) {
		r := rand.New(rand.NewSource(seed))
		room := 1 + r.Intn(40)
		w, m := fresh(t, room), &model{room, make(map[one]struct{})}
		for step := range 400 {
			p := paths[r.Intn(len(paths))]
			switch k := r.Intn(20); {
			case k < 13:
				x := one{int64(r.Intn(7) - 1), p, r.Intn(5) - 1}
				if r.Intn(2) == 0 {
					x.kind = 1 + r.Intn(2)
				}
				if e, want := w.Arm(x.sess, x.p, x.kind), m.arm(x); e != want {
					t.Fatalf("run %d, step %d: Arm of %v: %d, want %d", seed, step, x, e, want)
				}
			case k < 19:
				change := r.Intn(6) - 1
				if got, want := w.Fire(p, change), m.fire(p, change); !slices.Equal(got, want) {
					t.Fatalf("run %d, step %d: Fire(%q, %d): %v, want %v", seed, step, p, change, got, want)
				}
			default:
				sess := int64(r.Intn(8) - 1)
				if n, want := w.Drop(sess), m.drop(sess); n != want {
					t.Fatalf("run %d, step %d: Drop(%d): %d, want %d", seed, step, sess, n, want)
				}
			}
			if w.Len() != len(m.armed) {
				t.Fatalf("run %d, step %d: Len %d, want %d", seed, step, w.Len(), len(m.armed))
			}
		}
	}
}
