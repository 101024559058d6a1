package sess

import (
	"bytes"
	"fmt"
	"math"
	"slices"
	"testing"

	"aviary/api"
)

// some makes Sessions with something of each: ended by Close and by Tick, touched, not touched, room for two more.
func some(t *testing.T) *Sessions {
	t.Helper()
	s := fresh(t, 5, 4, 10000, 2, 6)
	lets(t, s, 1)
	s.Close(2)
	opens(t, s, 300, 5, api.OK)
	ticks(t, s, 2, 3)
	s.Touch(1)
	return s
}

// P15.1: Get reads back what Put wrote, and what was read goes on as the first would have.
func TestGetGoesOn(t *testing.T) {
	a := some(t)
	b, e := Get(a.Put())
	if e != api.OK || b.Now() != 2 || fmt.Sprint(b.All()) != "[1 4 5]" || string(a.Put()) != string(b.Put()) {
		t.Fatalf("Get: %d", e)
	}
	for i, s := range []*Sessions{a, b} {
		opens(t, s, 10001, 0, api.EARG)
		opens(t, s, 2, 6, api.OK)
		opens(t, s, 10000, 7, api.OK)
		opens(t, s, 1, 0, api.EFULL)
		if s.Touch(3) != api.ESESS || s.Close(2) != api.ESESS || s.Close(8) != api.ESESS {
			t.Errorf("%d: one that has ended, or never was", i)
		}
		ticks(t, s, 3)
		if s.Touch(4) != api.OK || s.Close(5) != api.OK {
			t.Errorf("%d: one that lives", i)
		}
		ticks(t, s, 4, 6)
		ticks(t, s, 5)
		ticks(t, s, 6, 1)
		living(t, s, 4, 7)
		lets(t, s, 2)
		ticks(t, s, 9, 4)
		opens(t, s, 1, 8, api.OK)
		ticks(t, s, 10, 8)
		living(t, s, 7)
	}
	if string(a.Put()) != string(b.Put()) {
		t.Errorf("%x, and %x", a.Put(), b.Put())
	}
}

// P15.1: what one that was read is told the first does not know.
func TestGetApart(t *testing.T) {
	a := some(t)
	want := a.Put()
	b, _ := Get(want)
	b.Close(1)
	b.Tick()
	b.Open(1)
	if string(a.Put()) != string(want) {
		t.Error("the first has changed")
	}
}

// P15.1: Get at the ends of the time and of the next number goes on.
func TestGetAtTheEnds(t *testing.T) {
	s, e := Get(numbers(2, 1<<40, 1<<40, 1, 1<<40-1, 10000, 1<<40+10000))
	if e != api.OK {
		t.Fatalf("Get: %d", e)
	}
	opens(t, s, 1, 1<<40, api.OK)
	opens(t, s, 1, 0, api.EFULL)
	ticks(t, s, 1<<40+1, 1<<40)
	opens(t, s, 10000, 1<<40+1, api.OK)
	if e := s.Touch(1<<40 - 1); e != api.OK {
		t.Errorf("Touch: %d", e)
	}
	// The words put no end to the time or to the next number but where they are read.
	b := s.Put()
	if string(b) != string(numbers(2, 1<<40+1, 1<<40+2, 2, 1<<40-1, 10000, 1<<40+10001, 1<<40+1, 10000, 1<<40+10001)) {
		t.Errorf("Put: %x", b)
	}
	if e := holdGet(t, "past the ends", b); e != api.EFORM {
		t.Errorf("past the ends: %d", e)
	}
}

// P15.1: each number at both ends of what may be, and one beyond.
func TestGetNumbers(t *testing.T) {
	const far = 1 << 40
	for i, c := range []struct {
		list []int64
		e    api.Errno
	}{
		// room
		{[]int64{1, 0, 1, 0}, api.OK}, {[]int64{64, 0, 1, 0}, api.OK},
		{[]int64{0, 0, 1, 0}, api.EFORM}, {[]int64{65, 0, 1, 0}, api.EFORM}, {[]int64{-1, 0, 1, 0}, api.EFORM},
		{[]int64{math.MaxInt64, 0, 1, 0}, api.EFORM}, {[]int64{math.MinInt64, 0, 1, 0}, api.EFORM}, {[]int64{1<<32 + 1, 0, 1, 0}, api.EFORM},
		// the time
		{[]int64{3, far, 1, 0}, api.OK}, {[]int64{3, far + 1, 1, 0}, api.EFORM}, {[]int64{3, -1, 1, 0}, api.EFORM},
		{[]int64{3, math.MaxInt64, 1, 0}, api.EFORM}, {[]int64{3, math.MinInt64, 1, 0}, api.EFORM},
		// the next number
		{[]int64{3, 0, far, 0}, api.OK}, {[]int64{3, 0, far + 1, 0}, api.EFORM}, {[]int64{3, 0, 0, 0}, api.EFORM}, {[]int64{3, 0, -1, 0}, api.EFORM},
		{[]int64{3, 0, math.MaxInt64, 0}, api.EFORM}, {[]int64{3, 0, math.MinInt64, 0}, api.EFORM},
		// a number
		{[]int64{3, 4, 9, 1, 1, 5, 9}, api.OK}, {[]int64{3, 4, 9, 1, 8, 5, 9}, api.OK}, {[]int64{3, 4, far, 1, far - 1, 5, 9}, api.OK}, {[]int64{3, 4, 2, 1, 1, 5, 9}, api.OK},
		{[]int64{3, 4, 9, 1, 0, 5, 9}, api.EFORM}, {[]int64{3, 4, 9, 1, 9, 5, 9}, api.EFORM}, {[]int64{3, 4, 9, 1, -1, 5, 9}, api.EFORM}, {[]int64{3, 4, 1, 1, 1, 5, 9}, api.EFORM},
		{[]int64{3, 4, 9, 1, math.MaxInt64, 5, 9}, api.EFORM}, {[]int64{3, 4, 9, 1, math.MinInt64, 5, 9}, api.EFORM}, {[]int64{3, 4, far, 1, far, 5, 9}, api.EFORM},
		// span
		{[]int64{3, 4, 9, 1, 8, 1, 5}, api.OK}, {[]int64{3, 4, 9, 1, 8, 10000, 10000}, api.OK}, {[]int64{3, 4, 9, 1, 8, 10000, 10004}, api.OK},
		{[]int64{3, 4, 9, 1, 8, 0, 4}, api.EFORM}, {[]int64{3, 4, 9, 1, 8, 0, 5}, api.EFORM}, {[]int64{3, 4, 9, 1, 8, 10001, 10001}, api.EFORM}, {[]int64{3, 4, 9, 1, 8, 10001, 10005}, api.EFORM}, {[]int64{3, 4, 9, 1, 8, -1, 5}, api.EFORM},
		{[]int64{3, 4, 9, 1, 8, math.MaxInt64, math.MaxInt64}, api.EFORM}, {[]int64{3, 4, 9, 1, 8, math.MinInt64, 5}, api.EFORM}, {[]int64{3, 4, 9, 1, 8, math.MinInt64, math.MinInt64}, api.EFORM},
		// till: above the time
		{[]int64{3, 4, 9, 1, 8, 2, 5}, api.OK}, {[]int64{3, 4, 9, 1, 8, 2, 4}, api.EFORM}, {[]int64{3, 4, 9, 1, 8, 2, 3}, api.EFORM}, {[]int64{3, 4, 9, 1, 8, 4, 4}, api.EFORM},
		{[]int64{3, 0, 9, 1, 8, 2, 0}, api.EFORM}, {[]int64{3, 0, 9, 1, 8, 2, -1}, api.EFORM},
		// till: not above the time and span
		{[]int64{3, 4, 9, 1, 8, 7, 11}, api.OK}, {[]int64{3, 4, 9, 1, 8, 7, 12}, api.EFORM}, {[]int64{3, 4, 9, 1, 8, 1, 6}, api.EFORM},
		{[]int64{3, far, 9, 1, 8, 10000, far + 10000}, api.OK}, {[]int64{3, far, 9, 1, 8, 10000, far + 1}, api.OK}, {[]int64{3, far, 9, 1, 8, 10000, far}, api.EFORM}, {[]int64{3, far, 9, 1, 8, 10000, far + 10001}, api.EFORM},
		// till: not below span
		{[]int64{3, 4, 9, 1, 8, 7, 7}, api.OK}, {[]int64{3, 4, 9, 1, 8, 7, 6}, api.EFORM}, {[]int64{3, 0, 9, 1, 8, 7, 7}, api.OK}, {[]int64{3, 0, 9, 1, 8, 7, 6}, api.EFORM}, {[]int64{3, 0, 9, 1, 8, 7, 8}, api.EFORM}, {[]int64{3, 0, 9, 1, 8, 7, 1}, api.EFORM},
		{[]int64{3, 4, 9, 1, 8, 7, math.MaxInt64}, api.EFORM}, {[]int64{3, 4, 9, 1, 8, 7, math.MinInt64}, api.EFORM}, {[]int64{3, 4, 9, 1, 8, 10000, math.MinInt64 + 5}, api.EFORM},
	} {
		if e := holdGet(t, fmt.Sprint("number ", i), numbers(c.list...)); e != c.e {
			t.Errorf("number %d: %v: %d, want %d", i, c.list, e, c.e)
		}
	}
}

// P15.1: numbers rise, each is there once, not more than room live, and as many as the bytes hold.
func TestGetLists(t *testing.T) {
	for i, c := range []struct {
		list []int64
		e    api.Errno
	}{
		{[]int64{3, 1, 9, 2, 3, 5, 6, 4, 5, 6}, api.OK}, {[]int64{3, 1, 9, 2, 1, 5, 6, 8, 9, 10}, api.OK}, {[]int64{3, 1, 9, 3, 1, 5, 5, 2, 5, 6, 8, 9, 10}, api.OK},
		{[]int64{3, 1, 9, 2, 4, 5, 6, 3, 5, 6}, api.EFORM}, {[]int64{3, 1, 9, 2, 3, 5, 6, 3, 5, 6}, api.EFORM}, {[]int64{3, 1, 9, 2, 3, 5, 6, 3, 5, 5}, api.EFORM},
		{[]int64{3, 1, 9, 3, 1, 5, 6, 3, 5, 6, 2, 5, 6}, api.EFORM}, {[]int64{3, 1, 9, 3, 1, 5, 6, 3, 5, 6, 3, 5, 6}, api.EFORM}, {[]int64{3, 1, 9, 3, 2, 5, 6, 1, 5, 6, 3, 5, 6}, api.EFORM}, {[]int64{3, 1, 9, 3, 1, 5, 6, 2, 5, 6, 1, 5, 6}, api.EFORM},
		// the second or the last of several may not be
		{[]int64{3, 1, 9, 2, 3, 5, 6, 4, 5, 7}, api.EFORM}, {[]int64{3, 1, 9, 2, 3, 5, 6, 4, 0, 1}, api.EFORM}, {[]int64{3, 1, 9, 2, 3, 5, 6, 9, 5, 6}, api.EFORM}, {[]int64{3, 1, 9, 2, 3, 5, 4, 4, 5, 6}, api.EFORM}, {[]int64{3, 1, 9, 3, 1, 5, 5, 2, 5, 6, 8, 9, 8}, api.EFORM},
		// room
		{[]int64{2, 1, 9, 2, 7, 5, 6, 8, 5, 6}, api.OK}, {[]int64{1, 1, 9, 2, 7, 5, 6, 8, 5, 6}, api.EFORM}, {[]int64{1, 1, 9, 1, 8, 5, 6}, api.OK}, {[]int64{2, 1, 9, 3, 6, 5, 6, 7, 5, 6, 8, 5, 6}, api.EFORM},
		// no more is asked of them than the words behind the colon: where room live the next number may be any above
		// theirs, and behind one of span 1 there may be one that was touched earlier
		{[]int64{1, 1, 9, 1, 3, 5, 6}, api.OK}, {[]int64{2, 1, 1 << 40, 2, 7, 5, 6, 8, 5, 6}, api.OK}, {[]int64{3, 1, 9, 2, 7, 1, 2, 8, 5, 5}, api.OK},
		// how many
		{[]int64{3, 1, 9, -1}, api.EFORM}, {[]int64{3, 1, 9, -1, 8, 5, 6}, api.EFORM}, {[]int64{3, 1, 9, math.MinInt64}, api.EFORM}, {[]int64{3, 1, 9, math.MaxInt64}, api.EFORM}, {[]int64{3, 1, 9, 1 << 32}, api.EFORM},
		{[]int64{3, 1, 9, 1}, api.EFORM}, {[]int64{3, 1, 9, 2, 8, 5, 6}, api.EFORM}, {[]int64{3, 1, 9, 0, 8, 5, 6}, api.EFORM}, {[]int64{3, 1, 9, 1, 7, 5, 6, 8, 5, 6}, api.EFORM}, {[]int64{3, 1, 9, 1, 8, 5}, api.EFORM}, {[]int64{3, 1, 9, 1, 8}, api.EFORM}, {[]int64{3, 1, 9, 1, 8, 5, 6, 7}, api.EFORM}, {[]int64{3, 1, 9, 0, 0}, api.EFORM},
		{nil, api.EFORM}, {[]int64{3}, api.EFORM}, {[]int64{3, 1}, api.EFORM}, {[]int64{3, 1, 9}, api.EFORM},
	} {
		if e := holdGet(t, fmt.Sprint("number ", i), numbers(c.list...)); e != c.e {
			t.Errorf("number %d: %v: %d, want %d", i, c.list, e, c.e)
		}
	}
}

// P15.1: as many as room live, at the greatest room, and one more.
func TestGetFull(t *testing.T) {
	list := []int64{64, 3, 66, 64}
	for id := int64(1); id <= 64; id++ {
		list = append(list, id+1, id+3, id+4)
	}
	if e := holdGet(t, "room", numbers(list...)); e != api.OK {
		t.Errorf("as many as room: %d", e)
	}
	more := append(slices.Clone(list), 66, 3, 4)
	more[2], more[3] = 67, 65
	if e := holdGet(t, "past room", numbers(more...)); e != api.EFORM {
		t.Errorf("one more than room: %d", e)
	}
	less := slices.Clone(list)
	less[0] = 63
	if e := holdGet(t, "less room", numbers(less...)); e != api.EFORM {
		t.Errorf("one less room: %d", e)
	}
}

// P15.1: bytes that are cut off anywhere, or have one more, or another one, are read as the chapter's words say.
func TestGetSpoiled(t *testing.T) {
	var all [][]byte
	for _, s := range []*Sessions{fresh(t, 1), fresh(t, 1, 1), fresh(t, 3, 10000, 5), some(t)} {
		all = append(all, s.Put())
	}
	well := 0
	for i, b := range all {
		for n := range b {
			if e := holdGet(t, "cut off", b[:n]); e != api.EFORM {
				t.Errorf("%d, cut off at %d: %d", i, n, e)
			}
			if e := holdGet(t, "cut off ahead", b[n+1:]); e != api.EFORM {
				t.Errorf("%d, without %d bytes ahead: %d", i, n+1, e)
			}
			for v := range 256 {
				changed := bytes.Clone(b)
				changed[n] = byte(v)
				if holdGet(t, "one changed", changed) == api.OK {
					well++
				}
			}
		}
		for v := range 256 {
			more := append(bytes.Clone(b), byte(v))
			ahead := append([]byte{byte(v)}, b...)
			if holdGet(t, "one more", more) != api.EFORM || holdGet(t, "one more ahead", ahead) != api.EFORM {
				t.Errorf("%d: one byte more", i)
			}
		}
		if e := holdGet(t, "twice", append(bytes.Clone(b), b...)); e != api.EFORM {
			t.Errorf("%d, twice: %d", i, e)
		}
	}
	if well < 500 {
		t.Errorf("only %d with another byte are read", well)
	}
}

// R4: Get changes nothing of what it is handed, spare room included, and keeps nothing of it.
func TestGetKeepsNothing(t *testing.T) {
	good := some(t).Put()
	for _, b := range [][]byte{good, good[:len(good)-1], numbers(3, 1, 9, 2, 4, 5, 6, 3, 5, 6)} {
		long := append(bytes.Clone(b), 1, 2, 3, 4, 5, 6, 7, 8)
		before := bytes.Clone(long)
		s, e := Get(long[:len(b)])
		if !bytes.Equal(long, before) {
			t.Fatalf("what was handed in has changed: %x", long)
		}
		if e != api.OK {
			continue
		}
		spoilBytes(long)
		hold(t, "kept", s, wantGet(b))
		for range 4 {
			s.Tick()
			s.Open(3)
		}
		spoilBytes(s.Put())
		for _, c := range long {
			if c != 0xee {
				t.Fatal("a later call has changed what was handed in")
			}
		}
	}
	if s, e := Get(nil); s != nil || e != api.EFORM {
		t.Errorf("of nil: %v, %d", s, e)
	}
	if s, e := Get([]byte{}); s != nil || e != api.EFORM {
		t.Errorf("of no bytes: %v, %d", s, e)
	}
}
