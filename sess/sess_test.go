package sess

import (
	"fmt"
	"math"
	"slices"
	"testing"

	"aviary/api"
)

// fresh makes Sessions, and opens one of each span.
func fresh(t *testing.T, room int, spans ...int64) *Sessions {
	t.Helper()
	s, e := New(room)
	if s == nil || e != api.OK {
		t.Fatalf("New(%d): %v, %d", room, s, e)
	}
	for i, span := range spans {
		opens(t, s, span, int64(i+1), api.OK)
	}
	return s
}

func opens(t *testing.T, s *Sessions, span, id int64, e api.Errno) {
	t.Helper()
	if gotID, got := s.Open(span); gotID != id || got != e {
		t.Fatalf("Open(%d): %d, %d, want %d, %d", span, gotID, got, id, e)
	}
}

// ticks lets time go by once: the time then, and whose is over.
func ticks(t *testing.T, s *Sessions, now int64, over ...int64) {
	t.Helper()
	if got := s.Tick(); !slices.Equal(got, over) || s.Now() != now {
		t.Fatalf("Tick: %v at %d, want %v at %d", got, s.Now(), over, now)
	}
}

// lets lets time go by so often, while nobody's is over.
func lets(t *testing.T, s *Sessions, times int) {
	t.Helper()
	for range times {
		ticks(t, s, s.Now()+1)
	}
}

// living holds who lives, by all that tells it.
func living(t *testing.T, s *Sessions, ids ...int64) {
	t.Helper()
	if got := s.All(); !slices.Equal(got, ids) {
		t.Fatalf("All: %v, want %v", got, ids)
	}
	for id := int64(-3); id < 70; id++ {
		if s.Live(id) != slices.Contains(ids, id) {
			t.Fatalf("Live(%d): %v, where %v live", id, s.Live(id), ids)
		}
	}
}

// noIDs are numbers that no session has where fewer than 1000 were opened.
func noIDs() []int64 {
	return []int64{0, -1, -2, math.MinInt64, math.MinInt64 + 1, 1000, 1 << 31, 1 << 32, 1<<32 + 1, 1<<32 + 2, 1<<63 - 1}
}

// The chapter's example.
func TestExample(t *testing.T) {
	s := fresh(t, 1, 2)
	ticks(t, s, 1)
	ticks(t, s, 2, 1)
}

// P15.1: which room New takes; without it there is nothing; the time is 0.
func TestNew(t *testing.T) {
	for _, room := range []int{0, -1, -64, 65, 66, 1 << 32, 1<<32 + 1, math.MaxInt, math.MinInt, math.MinInt + 1} {
		if s, e := New(room); s != nil || e != api.EARG {
			t.Errorf("New(%d): %v, %d", room, s, e)
		}
	}
	for _, room := range []int{1, 2, 63, 64} {
		s := fresh(t, room)
		if s.Now() != 0 {
			t.Errorf("New(%d): time %d", room, s.Now())
		}
		living(t, s)
		var ids []int64
		for id := range int64(room) {
			opens(t, s, 5, id+1, api.OK)
			ids = append(ids, id+1)
		}
		opens(t, s, 5, 0, api.EFULL)
		living(t, s, ids...)
		lets(t, s, 4)
		ticks(t, s, 5, ids...)
		living(t, s)
	}
}

// P15.1: what one is told another does not know.
func TestApart(t *testing.T) {
	a, b := fresh(t, 2, 1, 9), fresh(t, 2, 1)
	ticks(t, a, 1, 1)
	a.Close(2)
	living(t, b, 1)
	opens(t, b, 7, 2, api.OK)
	opens(t, a, 7, 3, api.OK)
	ticks(t, b, 1, 1)
	living(t, a, 3)
	living(t, b, 2)
}

// P15.1: which spans Open takes; of one that may not be EARG is told, also where room live; nothing changes.
func TestOpenSpans(t *testing.T) {
	for _, room := range []int{1, 2} {
		s := fresh(t, room, 10000)
		before := s.Put()
		for _, span := range []int64{0, -1, -10000, 10001, 10002, 1 << 32, 1<<32 + 1, math.MaxInt64, math.MinInt64, math.MinInt64 + 1} {
			opens(t, s, span, 0, api.EARG)
		}
		if string(s.Put()) != string(before) {
			t.Errorf("of room %d: a span that may not be has changed something", room)
		}
		if room == 1 {
			opens(t, s, 1, 0, api.EFULL)
			opens(t, s, 10000, 0, api.EFULL)
		}
	}
	for _, span := range []int64{1, 2, 3, 100, 9999, 10000} {
		s := fresh(t, 1, span)
		lets(t, s, int(span-1))
		living(t, s, 1)
		ticks(t, s, span, 1)
		living(t, s)
	}
}

// P15.1: one more than room is EFULL, and takes no number; where one ends there is room again, for one.
func TestOpenPastRoom(t *testing.T) {
	for _, room := range []int{1, 2, 3, 63, 64} {
		s := fresh(t, room)
		opens(t, s, 3, 1, api.OK)
		for id := int64(2); id <= int64(room); id++ {
			opens(t, s, 10000, id, api.OK)
		}
		before := s.Put()
		opens(t, s, 1, 0, api.EFULL)
		opens(t, s, 10000, 0, api.EFULL)
		if string(s.Put()) != string(before) {
			t.Errorf("of room %d: one past it has changed something", room)
		}
		next := int64(room) + 1
		if e := s.Close(int64(room)); e != api.OK {
			t.Fatalf("of room %d: Close: %d", room, e)
		}
		opens(t, s, 3, next, api.OK)
		opens(t, s, 3, 0, api.EFULL)
		lets(t, s, 2)
		s.Touch(next)
		if room == 1 {
			lets(t, s, 2)
			ticks(t, s, 5, next)
		} else {
			ticks(t, s, 3, 1)
		}
		opens(t, s, 3, next+1, api.OK)
		opens(t, s, 3, 0, api.EFULL)
	}
}

// P15.1: the numbers are from 1 on, one more each, whoever has ended.
func TestOpenNumbers(t *testing.T) {
	s := fresh(t, 2)
	for id := int64(1); id <= 30; id += 3 {
		opens(t, s, 2, id, api.OK)
		s.Close(id)
		opens(t, s, 1, id+1, api.OK)
		opens(t, s, 0, 0, api.EARG)
		opens(t, s, 2, id+2, api.OK)
		opens(t, s, 2, 0, api.EFULL)
		now := s.Now()
		ticks(t, s, now+1, id+1)
		ticks(t, s, now+2, id+2)
		ticks(t, s, now+3)
	}
}

// P15.1: a session lives from the time on at which it was opened, not from 0.
func TestOpenLater(t *testing.T) {
	s := fresh(t, 3)
	lets(t, s, 7)
	opens(t, s, 2, 1, api.OK)
	ticks(t, s, 8)
	opens(t, s, 2, 2, api.OK)
	opens(t, s, 1, 3, api.OK)
	ticks(t, s, 9, 1, 3)
	ticks(t, s, 10, 2)
	ticks(t, s, 11)
}

// P15.1: Touch and Close of one that lives, has ended by either, or never was.
func TestTouchCloseWho(t *testing.T) {
	s := fresh(t, 4, 9, 1, 9, 9)
	ticks(t, s, 1, 2)
	if e := s.Close(3); e != api.OK {
		t.Fatalf("Close of one that lives: %d", e)
	}
	living(t, s, 1, 4)
	before := s.Put()
	for _, id := range append(noIDs(), 2, 3, 5, 6, -4) {
		if e := s.Touch(id); e != api.ESESS {
			t.Errorf("Touch(%d): %d", id, e)
		}
		if e := s.Close(id); e != api.ESESS {
			t.Errorf("Close(%d): %d", id, e)
		}
		if s.Live(id) {
			t.Errorf("Live(%d)", id)
		}
	}
	if string(s.Put()) != string(before) {
		t.Error("what was refused has changed something")
	}
	for _, id := range []int64{1, 4} {
		if e := s.Touch(id); e != api.OK {
			t.Errorf("Touch(%d): %d", id, e)
		}
		if e := s.Close(id); e != api.OK || s.Close(id) != api.ESESS || s.Touch(id) != api.ESESS {
			t.Errorf("Close(%d): %d", id, e)
		}
	}
	living(t, s)
	for _, id := range append(noIDs(), 1, 2, 3, 4, 5) {
		if s.Touch(id) != api.ESESS || s.Close(id) != api.ESESS {
			t.Errorf("none lives: Touch or Close of %d", id)
		}
	}
}

// P15.1: Close of each of several: the others stay, with their times.
func TestClose(t *testing.T) {
	for id := int64(1); id <= 4; id++ {
		s := fresh(t, 4, 2, 2, 2, 2)
		if e := s.Close(id); e != api.OK {
			t.Fatalf("Close(%d): %d", id, e)
		}
		left := slices.DeleteFunc([]int64{1, 2, 3, 4}, func(x int64) bool { return x == id })
		living(t, s, left...)
		if s.Now() != 0 {
			t.Errorf("Close(%d): time %d", id, s.Now())
		}
		ticks(t, s, 1)
		ticks(t, s, 2, left...)
	}
}

// P15.1: Touch sets till to now and the session's own span: neither more nor less, and no other's.
func TestTouch(t *testing.T) {
	s := fresh(t, 3, 5, 3, 4)
	lets(t, s, 2)
	for range 3 {
		if e := s.Touch(2); e != api.OK || s.Now() != 2 {
			t.Fatalf("Touch: %d, time %d", e, s.Now())
		}
	}
	if got, want := s.Put(), numbers(3, 2, 4, 3, 1, 5, 5, 2, 3, 5, 3, 4, 4); string(got) != string(want) {
		t.Fatalf("%x, want %x", got, want)
	}
	ticks(t, s, 3)
	ticks(t, s, 4, 3)
	ticks(t, s, 5, 1, 2)
	s = fresh(t, 2, 2, 10000)
	for now := int64(1); now <= 50; now++ {
		ticks(t, s, now)
		s.Touch(1)
	}
	ticks(t, s, 51)
	ticks(t, s, 52, 1)
	living(t, s, 2)
}

// P15.1: Tick: none, one, several at once; at till, not one ahead of it; each is told once.
func TestTick(t *testing.T) {
	s := fresh(t, 2)
	lets(t, s, 3)
	s = fresh(t, 8, 3, 5, 3, 1, 10000, 3, 2, 5)
	ticks(t, s, 1, 4)
	living(t, s, 1, 2, 3, 5, 6, 7, 8)
	ticks(t, s, 2, 7)
	living(t, s, 1, 2, 3, 5, 6, 8)
	ticks(t, s, 3, 1, 3, 6)
	living(t, s, 2, 5, 8)
	ticks(t, s, 4)
	living(t, s, 2, 5, 8)
	ticks(t, s, 5, 2, 8)
	living(t, s, 5)
	lets(t, s, 9994)
	living(t, s, 5)
	ticks(t, s, 10000, 5)
	living(t, s)
	ticks(t, s, 10001)
}

// P15.1: those that end are told rising, whichever was touched last.
func TestTickRising(t *testing.T) {
	s := fresh(t, 4, 4, 3, 2, 4)
	ticks(t, s, 1)
	for _, id := range []int64{3, 2} {
		s.Touch(id)
	}
	ticks(t, s, 2)
	s.Touch(3)
	living(t, s, 1, 2, 3, 4)
	ticks(t, s, 3)
	ticks(t, s, 4, 1, 2, 3, 4)
}

// P15.1: Put: the bytes one by one, written out here.
func TestPutBytes(t *testing.T) {
	const nought = "\x00\x00\x00\x00\x00\x00\x00\x00"
	n := func(v byte) string { return nought[:7] + string([]byte{v}) }
	s := fresh(t, 64)
	holdBytes(t, "none", s, n(64)+nought+n(1)+nought)
	opens(t, s, 10000, 1, api.OK)
	holdBytes(t, "one", s, n(64)+nought+n(2)+n(1)+n(1)+nought[:6]+"\x27\x10"+nought[:6]+"\x27\x10")
	ticks(t, s, 1)
	opens(t, s, 7, 2, api.OK)
	opens(t, s, 3, 3, api.OK)
	s.Close(2)
	opens(t, s, 5, 4, api.OK)
	ticks(t, s, 2)
	s.Touch(3)
	holdBytes(t, "three", s, n(64)+n(2)+n(5)+n(3)+
		n(1)+nought[:6]+"\x27\x10"+nought[:6]+"\x27\x10"+n(3)+n(3)+n(5)+n(4)+n(5)+n(6))
	s.Close(1)
	for range 3 {
		s.Tick()
	}
	holdBytes(t, "one again", s, n(64)+n(5)+n(5)+n(1)+n(4)+n(5)+n(6))
	s.Tick()
	holdBytes(t, "none again", s, n(64)+n(6)+n(5)+nought)
	lets(t, s, 250)
	holdBytes(t, "later", s, n(64)+nought[:6]+"\x01\x00"+n(5)+nought)
}

func holdBytes(t *testing.T, what string, s *Sessions, want string) {
	t.Helper()
	for range 2 {
		if b := s.Put(); string(b) != want {
			t.Errorf("%s: %x\nwant %x", what, b, want)
		}
	}
	if e := holdGet(t, what, []byte(want)); e != api.OK {
		t.Errorf("%s: Get: %d", what, e)
	}
}

// R4: what All, Tick and Put answer is new memory, spare room too.
func TestNewMemory(t *testing.T) {
	s := fresh(t, 6, 1, 1, 1, 9, 9, 9)
	want := s.Put()
	for range 2 {
		spoil(s.All())
		spoilBytes(s.Put())
		if string(s.Put()) != string(want) {
			t.Fatal("who writes to an answer writes to what is kept")
		}
	}
	all, b := s.All(), s.Put()
	over := s.Tick()
	spoil(s.Tick())
	opens(t, s, 9, 7, api.OK)
	s.Close(4)
	if fmt.Sprint(all, over) != "[1 2 3 4 5 6] [1 2 3]" || string(b) != string(want) {
		t.Errorf("what was answered has changed: %v, %v, %x", all, over, b)
	}
	want = s.Put()
	spoil(over)
	spoil(all)
	spoilBytes(b)
	if string(s.Put()) != string(want) {
		t.Error("who writes to an answer writes to what is kept")
	}
	living(t, s, 5, 6, 7)
}

func spoil(list []int64) {
	for i := range list[:cap(list)] {
		list[:cap(list)][i] = -9
	}
}

func spoilBytes(b []byte) {
	for i := range b[:cap(b)] {
		b[:cap(b)][i] = 0xee
	}
}
