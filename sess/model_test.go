package sess

import (
	"encoding/binary"
	"math/rand"
	"slices"
	"sort"
	"testing"

	"aviary/api"
)

// one is a session: what the bytes have of each.
type one struct{ id, span, till int64 }

// model is the chapter's words, one by one, with those that live in no order.
type model struct {
	room      int64
	now, next int64
	live      map[int64]one
}

func newModel(room int64) *model { return &model{room: room, next: 1, live: map[int64]one{}} }

func (m *model) open(span int64) (int64, api.Errno) {
	if span < 1 || span > 10000 {
		return 0, api.EARG
	}
	if int64(len(m.live)) == m.room {
		return 0, api.EFULL
	}
	id := m.next
	m.next++
	m.live[id] = one{id, span, m.now + span}
	return id, api.OK
}

func (m *model) touch(id int64) api.Errno {
	x, there := m.live[id]
	if !there {
		return api.ESESS
	}
	m.live[id] = one{id, x.span, m.now + x.span}
	return api.OK
}

func (m *model) close(id int64) api.Errno {
	if _, there := m.live[id]; !there {
		return api.ESESS
	}
	delete(m.live, id)
	return api.OK
}

func (m *model) tick() []int64 {
	m.now++
	var over []int64
	for id, x := range m.live {
		if !(x.till > m.now) {
			over = append(over, id)
			delete(m.live, id)
		}
	}
	slices.Sort(over)
	return over
}

func (m *model) all() []int64 {
	var ids []int64
	for id := range m.live {
		ids = append(ids, id)
	}
	slices.Sort(ids)
	return ids
}

func (m *model) put() []byte {
	list := []int64{m.room, m.now, m.next, int64(len(m.live))}
	for _, id := range m.all() {
		list = append(list, id, m.live[id].span, m.live[id].till)
	}
	return numbers(list...)
}

// numbers makes bytes of numbers, whatever they are.
func numbers(list ...int64) []byte {
	var b []byte
	for _, v := range list {
		b = binary.BigEndian.AppendUint64(b, uint64(v))
	}
	return b
}

// wantGet tells what Get answers, by the chapter's words; nil: EFORM.
func wantGet(b []byte) *model {
	if len(b)%8 != 0 || len(b) < 32 {
		return nil
	}
	var list []int64
	for ; len(b) > 0; b = b[8:] {
		list = append(list, int64(binary.BigEndian.Uint64(b)))
	}
	m := newModel(list[0])
	m.now, m.next = list[1], list[2]
	count, list := list[3], list[4:]
	if !within(m.room, 1, 64) || !within(m.now, 0, 1<<40) || !within(m.next, 1, 1<<40) || !within(count, 0, m.room) || int64(len(list)) != 3*count {
		return nil
	}
	var ids []int64
	for ; len(list) > 0; list = list[3:] {
		x := one{list[0], list[1], list[2]}
		if !within(x.id, 1, m.next-1) || !within(x.span, 1, 10000) || !within(x.till, m.now+1, m.now+x.span) || x.till < x.span {
			return nil
		}
		ids = append(ids, x.id)
		m.live[x.id] = x
	}
	if len(m.live) != len(ids) || !sort.SliceIsSorted(ids, func(i, j int) bool { return ids[i] < ids[j] }) {
		return nil
	}
	return m
}

func within(v, least, most int64) bool { return least <= v && v <= most }

// hold holds all that can be asked of s against the model.
func hold(t *testing.T, what string, s *Sessions, m *model) {
	t.Helper()
	if s.Now() != m.now || !slices.Equal(s.All(), m.all()) {
		t.Fatalf("%s: time %d, %v; want %d, %v", what, s.Now(), s.All(), m.now, m.all())
	}
	if got, want := s.Put(), m.put(); string(got) != string(want) {
		t.Fatalf("%s: Put: %x, want %x", what, got, want)
	}
	asked := []int64{-1 << 63, -1, 0, 1, m.next - 1, m.next, m.next + 1, 1<<63 - 1}
	for id := range m.live {
		asked = append(asked, id-1, id, id+1, -id, id+1<<32)
	}
	for _, id := range asked {
		if _, there := m.live[id]; s.Live(id) != there {
			t.Fatalf("%s: Live(%d): %v", what, id, s.Live(id))
		}
	}
}

// holdGet holds Get of b against the model, and tells its error.
func holdGet(t *testing.T, what string, b []byte) api.Errno {
	t.Helper()
	s, e := Get(b)
	m := wantGet(b)
	if m == nil {
		if s != nil || e != api.EFORM {
			t.Fatalf("%s: Get: %v, %d, want EFORM\n%x", what, s, e, b)
		}
		return e
	}
	if s == nil || e != api.OK {
		t.Fatalf("%s: Get: %v, %d, want OK\n%x", what, s, e, b)
	}
	hold(t, what, s, m)
	if again := s.Put(); string(again) != string(b) {
		t.Fatalf("%s: Put of what Get tells: %x, want %x", what, again, b)
	}
	return e
}

// step does one call on both, and holds what it answers.
func step(t *testing.T, r *rand.Rand, s *Sessions, m *model) {
	t.Helper()
	someID := m.next - int64(r.Intn(int(min(2*m.room+3, m.next+3)))) + 1
	switch k := r.Intn(20); {
	case k < 8:
		span := int64(r.Intn(9) - 1)
		if r.Intn(9) == 0 {
			span = 9999 + int64(r.Intn(4))
		}
		id, e := s.Open(span)
		if wantID, want := m.open(span); id != wantID || e != want {
			t.Fatalf("Open(%d): %d, %d, want %d, %d", span, id, e, wantID, want)
		}
	case k < 12:
		if e, want := s.Touch(someID), m.touch(someID); e != want {
			t.Fatalf("Touch(%d): %d, want %d", someID, e, want)
		}
	case k < 15:
		if e, want := s.Close(someID), m.close(someID); e != want {
			t.Fatalf("Close(%d): %d, want %d", someID, e, want)
		}
	default:
		if got, want := s.Tick(), m.tick(); !slices.Equal(got, want) {
			t.Fatalf("Tick: %v, want %v", got, want)
		}
	}
}

// P15.1: long runs of all calls answer as the chapter's words do; what Get reads midway goes on as the first does.
func TestAgainstModel(t *testing.T) {
	for seed := range int64(200) {
		r := rand.New(rand.NewSource(seed))
		room := 1 + r.Intn(8)
		if seed%10 == 0 {
			room = 64
		}
		s, m := fresh(t, room), newModel(int64(room))
		for range 300 {
			step(t, r, s, m)
			hold(t, "the run", s, m)
			if r.Intn(20) == 0 {
				read, e := Get(s.Put())
				if e != api.OK {
					t.Fatalf("run %d: Get: %d", seed, e)
				}
				s = read
			}
		}
	}
}

// P15.1: Get of numbers near and past what may be answers as the chapter's words do.
func TestGetAgainstModel(t *testing.T) {
	well := 0
	for seed := range int64(3000) {
		r := rand.New(rand.NewSource(seed))
		s, m := fresh(t, 1+r.Intn(4)), newModel(0)
		m.room = int64(s.room)
		for range r.Intn(40) {
			step(t, r, s, m)
		}
		b := s.Put()
		for range 1 + r.Intn(3) {
			at := 8 * r.Intn(len(b)/8)
			v := int64(binary.BigEndian.Uint64(b[at:])) + int64(r.Intn(7)-3)
			binary.BigEndian.PutUint64(b[at:], uint64(v))
		}
		if holdGet(t, "changed numbers", b) == api.OK {
			well++
		}
	}
	if well < 300 || well > 2700 {
		t.Errorf("%d of 3000 were read: the run holds too little", well)
	}
}
