package coord

import (
	"fmt"
	"math"
	"testing"

	"aviary/api"
)

// put holds what Put writes.
func put(t *testing.T, c *Coord, list ...int64) {
	t.Helper()
	if got, want := c.Put(), numbers(list...); string(got) != string(want) {
		t.Fatalf("Put: %x, want %x", got, want)
	}
}

// P20.1: each field in its order, as one goes on: no vote, ok, not ok; not decided, each way; who owes.
func TestPutFields(t *testing.T) {
	c := New()
	put(t, c, 0)
	begins(t, c, api.OK, 1<<32+5, 1, 3)
	put(t, c, 1, 1<<32+5, 2, 1, 3, 0, 0, 0, 2, 1, 3)
	votes(t, c, api.OK, 1<<32+5, 3, true)
	put(t, c, 1, 1<<32+5, 2, 1, 3, 0, 1, 0, 2, 1, 3)
	votes(t, c, api.OK, 1<<32+5, 1, true)
	put(t, c, 1, 1<<32+5, 2, 1, 3, 1, 1, 1, 2, 1, 3)
	does(t, c, api.OK, 1<<32+5, 1)
	put(t, c, 1, 1<<32+5, 2, 1, 3, 1, 1, 1, 1, 3)
	does(t, c, api.OK, 1<<32+5, 3)
	put(t, c, 1, 1<<32+5, 2, 1, 3, 1, 1, 1, 0)

	c = of(t, 0, 1, 2, 3)
	votes(t, c, api.OK, 1, 2, true)
	votes(t, c, api.OK, 1, 1, false)
	put(t, c, 1, 1, 4, 0, 1, 2, 3, 0, 2, 1, 0, 2, 4, 0, 1, 2, 3)
	does(t, c, api.OK, 1, 2)
	does(t, c, api.OK, 1, 0)
	put(t, c, 1, 1, 4, 0, 1, 2, 3, 0, 2, 1, 0, 2, 2, 1, 3)

	c = of(t, 2)
	aborts(t, c, 1, false, api.OK)
	put(t, c, 1, 1, 1, 2, 0, 2, 1, 2)
	does(t, c, api.OK, 1, 2)
	put(t, c, 1, 1, 1, 2, 0, 2, 0)
}

// P20.1: Put tells by id, whatever the order of Begins, and those too that are wholly done.
func TestPutOrder(t *testing.T) {
	want := []int64{4, 1, 1, 3, 1, 1, 0, 2, 1, 2, 0, 0, 1, 2, 1000, 1, 1, 0, 0, 1, 1, math.MaxInt64, 1, 0, 0, 0, 1, 0}
	for _, order := range orders([]int{0, 1, 2, 3}) {
		c := New()
		for _, i := range order {
			begins(t, c, api.OK, []int64{math.MaxInt64, 1000, 2, 1}[i], i)
		}
		votes(t, c, api.OK, 1, 3, true)
		does(t, c, api.OK, 1, 3)
		put(t, c, want...)
	}
}

// R4: Put's bytes are the caller's, spare room too, and stay as they are.
func TestPutMemory(t *testing.T) {
	c := each(t)
	first, second := c.Put(), c.Put()
	want := string(second)
	for i := range cap(first) {
		first[:cap(first)][i] = 0xff
	}
	if string(second) != want || string(c.Put()) != want {
		t.Error("another answer, or the Coord, has changed")
	}
	aborts(t, c, 2, false, api.OK)
	if string(second) != want {
		t.Error("an answer has changed behind")
	}
}

// P20.1: what Put wrote of each kind of Coord is read back, and goes on as it would have.
func TestGetGoesOn(t *testing.T) {
	first := each(t)
	does(t, first, api.OK, 5, 2)
	read, e := Get(first.Put())
	if e != api.OK {
		t.Fatalf("Get: %d", e)
	}
	for _, c := range []*Coord{first, read} {
		opens(t, c, 2, 3, 4, 5, 6)
		is(t, c, 2, undecided, 0, 2, 3)
		is(t, c, 3, undecided, 0, 2, 3)
		is(t, c, 4, committed, 0, 2, 3)
		is(t, c, 5, refused, 0, 3)
		is(t, c, 6, refused, 0, 2, 3)
		is(t, c, 7, committed)
		is(t, c, 8, refused)
		is(t, c, 9, refused)
		for id := int64(2); id <= 9; id++ {
			begins(t, c, api.EEXIST, id, 1)
			votes(t, c, api.ENONE, id, 1, true)
			does(t, c, api.ENONE, id, 1)
		}
		begins(t, c, api.OK, 1, 1)
		// 3 had shard 2's vote already.
		votes(t, c, api.OK, 3, 2, false)
		does(t, c, api.EWAIT, 3, 2)
		votes(t, c, api.OK, 3, 3, true)
		votes(t, c, api.OK, 3, 0, true)
		is(t, c, 3, committed, 0, 2, 3)
		aborts(t, c, 2, false, api.OK)
		aborts(t, c, 4, true, api.OK)
		does(t, c, api.OK, 5, 3)
		does(t, c, api.OK, 5, 2)
		opens(t, c, 1, 2, 3, 4, 5, 6)
		does(t, c, api.OK, 5, 0)
		does(t, c, api.OK, 7, 0)
		opens(t, c, 1, 2, 3, 4, 6)
	}
	if string(first.Put()) != string(read.Put()) {
		t.Errorf("%x, and %x", first.Put(), read.Put())
	}
}

// P20.1, R4: what one that was read is told the first does not know, nor do the bytes, which are not kept either.
func TestGetMemory(t *testing.T) {
	first := each(t)
	room := append(first.Put(), 1, 2, 3)
	b := room[:len(room)-3]
	want := string(room)
	read, e := Get(b)
	if e != api.OK || string(room) != want {
		t.Fatalf("Get: %d, or it has changed what it was handed", e)
	}
	clear(room)
	opens(t, read, 2, 3, 4, 5, 6)
	is(t, read, 4, committed, 0, 2, 3)
	if string(read.Put())+"\x01\x02\x03" != want {
		t.Error("Get has kept its bytes")
	}
	aborts(t, read, 2, false, api.OK)
	begins(t, read, api.OK, 1, 0)
	is(t, first, 2, undecided, 0, 2, 3)
	opens(t, first, 2, 3, 4, 5, 6)
}

// P20.1: bytes that are cut anywhere, or have something left over, are EFORM.
func TestGetLength(t *testing.T) {
	b := each(t).Put()
	for n := range len(b) {
		if e := holdGet(t, fmt.Sprint("cut at ", n), b[:n]); e != api.EFORM {
			t.Fatalf("cut at %d: %d", n, e)
		}
	}
	for _, more := range []string{"\x00", "\x01", "1234567", "\x00\x00\x00\x00\x00\x00\x00\x00", string(b), string(b[8:])} {
		if e := holdGet(t, "with more", append(b[:len(b):len(b)], more...)); e != api.EFORM {
			t.Errorf("with %x left over: %d", more, e)
		}
	}
	for _, b := range [][]byte{nil, {}} {
		if c, e := Get(b); c != nil || e != api.EFORM {
			t.Errorf("Get(%#v): %v, %d", b, c, e)
		}
	}
	empty, e := Get(numbers(0))
	if e != api.OK {
		t.Fatalf("Get of none: %d", e)
	}
	opens(t, empty)
	begins(t, empty, api.OK, 1, 0)
}

// P20.1: how many, their ids: at both ends of what may be, one beyond, and in their order.
func TestGetIDs(t *testing.T) {
	holdAll(t, []getCase{
		// how many
		{[]int64{1, 5, 1, 0, 0, 0, 1, 0}, api.OK}, {[]int64{0, 5, 1, 0, 0, 0, 1, 0}, api.EFORM}, {[]int64{2, 5, 1, 0, 0, 0, 1, 0}, api.EFORM}, {[]int64{-1, 5, 1, 0, 0, 0, 1, 0}, api.EFORM},
		{[]int64{1}, api.EFORM}, {[]int64{-1}, api.EFORM}, {[]int64{8}, api.EFORM}, {[]int64{math.MaxInt64}, api.EFORM}, {[]int64{math.MinInt64}, api.EFORM}, {[]int64{1 << 32}, api.EFORM}, {[]int64{1<<32 + 1, 5, 1, 0, 0, 0, 1, 0}, api.EFORM},
		// an id
		{[]int64{1, 1, 1, 0, 0, 0, 1, 0}, api.OK}, {[]int64{1, math.MaxInt64, 1, 0, 0, 0, 1, 0}, api.OK}, {[]int64{1, 1 << 40, 1, 0, 0, 0, 1, 0}, api.OK},
		{[]int64{1, 0, 1, 0, 0, 0, 1, 0}, api.EFORM}, {[]int64{1, -1, 1, 0, 0, 0, 1, 0}, api.EFORM}, {[]int64{1, math.MinInt64, 1, 0, 0, 0, 1, 0}, api.EFORM},
		// several ids
		{[]int64{2, 5, 1, 0, 0, 0, 1, 0, 6, 1, 0, 0, 0, 1, 0}, api.OK}, {[]int64{2, 1, 1, 0, 0, 0, 1, 0, math.MaxInt64, 1, 0, 0, 0, 1, 0}, api.OK},
		{[]int64{2, 5, 1, 0, 0, 0, 1, 0, 5, 1, 0, 0, 0, 1, 0}, api.EFORM}, {[]int64{2, 5, 1, 0, 0, 0, 1, 0, 5, 1, 1, 0, 0, 1, 1}, api.EFORM}, {[]int64{2, 5, 1, 0, 0, 0, 1, 0, 4, 1, 0, 0, 0, 1, 0}, api.EFORM},
		{[]int64{2, 5, 1, 0, 0, 0, 1, 0, 0, 1, 0, 0, 0, 1, 0}, api.EFORM}, {[]int64{2, 5, 1, 0, 0, 0, 1, 0, -6, 1, 0, 0, 0, 1, 0}, api.EFORM}, {[]int64{2, -5, 1, 0, 0, 0, 1, 0, 6, 1, 0, 0, 0, 1, 0}, api.EFORM},
		{[]int64{3, 5, 1, 0, 0, 0, 1, 0, 6, 1, 0, 0, 0, 1, 0, 7, 1, 0, 0, 0, 1, 0}, api.OK}, {[]int64{3, 5, 1, 0, 0, 0, 1, 0, 7, 1, 0, 0, 0, 1, 0, 6, 1, 0, 0, 0, 1, 0}, api.EFORM}, {[]int64{3, 6, 1, 0, 0, 0, 1, 0, 7, 1, 0, 0, 0, 1, 0, 6, 1, 0, 0, 0, 1, 0}, api.EFORM},
		{[]int64{1, 5, 1, 0, 0, 0, 1, 0, 6, 1, 0, 0, 0, 1, 0}, api.EFORM}, {[]int64{3, 5, 1, 0, 0, 0, 1, 0, 6, 1, 0, 0, 0, 1, 0}, api.EFORM},
		// one of several may not be
		{[]int64{2, 5, 1, 0, 1, 0, 1, 0, 6, 1, 0, 0, 0, 1, 0}, api.EFORM}, {[]int64{2, 5, 1, 0, 0, 0, 1, 0, 6, 1, 0, 1, 0, 1, 0}, api.EFORM}, {[]int64{2, 5, 0, 0, 0, 6, 1, 0, 0, 0, 1, 0}, api.EFORM},
	})
}

// P20.1: shards: how many, and which, rising.
func TestGetShards(t *testing.T) {
	holdAll(t, []getCase{
		{[]int64{1, 5, 1, 3, 0, 0, 1, 3}, api.OK}, {[]int64{1, 5, 4, 0, 1, 2, 3, 0, 0, 0, 0, 0, 4, 0, 1, 2, 3}, api.OK}, {[]int64{1, 5, 2, 1, 3, 0, 0, 0, 2, 1, 3}, api.OK},
		// how many
		{[]int64{1, 5, 0, 0, 0}, api.EFORM}, {[]int64{1, 5, 0, 2, 0}, api.EFORM}, {[]int64{1, 5, -1, 0, 0}, api.EFORM}, {[]int64{1, 5, math.MinInt64, 0, 0}, api.EFORM}, {[]int64{1, 5, math.MaxInt64, 0, 0}, api.EFORM},
		{[]int64{1, 5, 5, 0, 1, 2, 3, 4, 0, 0, 0, 0, 0, 0, 5, 0, 1, 2, 3, 4}, api.EFORM}, {[]int64{1, 5, 5, 0, 1, 2, 3, 3, 0, 0, 0, 0, 0, 0, 5, 0, 1, 2, 3, 3}, api.EFORM}, {[]int64{1, 5, 1<<32 + 1, 0, 0, 0, 1, 0}, api.EFORM},
		{[]int64{1, 5, 2, 0, 0, 0, 1, 0}, api.EFORM}, {[]int64{1, 5, 1, 0, 1, 0, 0, 0, 2, 0, 1}, api.EFORM},
		// which
		{[]int64{1, 5, 1, 4, 0, 0, 1, 4}, api.EFORM}, {[]int64{1, 5, 1, -1, 0, 0, 1, -1}, api.EFORM}, {[]int64{1, 5, 1, 1 << 32, 0, 0, 1, 1 << 32}, api.EFORM}, {[]int64{1, 5, 1, 1 << 32, 0, 0, 1, 0}, api.EFORM},
		{[]int64{1, 5, 1, math.MaxInt64, 0, 0, 1, math.MaxInt64}, api.EFORM}, {[]int64{1, 5, 1, math.MinInt64, 0, 0, 1, math.MinInt64}, api.EFORM}, {[]int64{1, 5, 1, 4, 0, 0, 1, 0}, api.EFORM},
		// rising
		{[]int64{1, 5, 2, 0, 0, 0, 0, 0, 2, 0, 0}, api.EFORM}, {[]int64{1, 5, 2, 0, 0, 0, 0, 0, 1, 0}, api.EFORM}, {[]int64{1, 5, 2, 1, 0, 0, 0, 0, 2, 1, 0}, api.EFORM}, {[]int64{1, 5, 2, 1, 0, 0, 0, 0, 2, 0, 1}, api.EFORM},
		{[]int64{1, 5, 3, 0, 2, 1, 0, 0, 0, 0, 3, 0, 1, 2}, api.EFORM}, {[]int64{1, 5, 2, 3, 4, 0, 0, 0, 2, 3, 4}, api.EFORM}, {[]int64{1, 5, 2, -1, 3, 0, 0, 0, 2, -1, 3}, api.EFORM},
	})
}

// P20.1: votes and a decision that calls can have led to, and others.
func TestGetVotes(t *testing.T) {
	holdAll(t, []getCase{
		// of one shard
		{[]int64{1, 5, 1, 0, 0, 0, 1, 0}, api.OK}, {[]int64{1, 5, 1, 0, 1, 1, 1, 0}, api.OK}, {[]int64{1, 5, 1, 0, 0, 2, 1, 0}, api.OK}, {[]int64{1, 5, 1, 0, 2, 2, 1, 0}, api.OK},
		{[]int64{1, 5, 1, 0, 0, 1, 1, 0}, api.EFORM}, {[]int64{1, 5, 1, 0, 1, 0, 1, 0}, api.EFORM}, {[]int64{1, 5, 1, 0, 1, 2, 1, 0}, api.EFORM}, {[]int64{1, 5, 1, 0, 2, 0, 1, 0}, api.EFORM}, {[]int64{1, 5, 1, 0, 2, 1, 1, 0}, api.EFORM},
		// what is no vote, no decision
		{[]int64{1, 5, 1, 0, 3, 0, 1, 0}, api.EFORM}, {[]int64{1, 5, 1, 0, 3, 2, 1, 0}, api.EFORM}, {[]int64{1, 5, 1, 0, -1, 0, 1, 0}, api.EFORM}, {[]int64{1, 5, 1, 0, 1<<32 + 1, 1, 1, 0}, api.EFORM}, {[]int64{1, 5, 1, 0, 1 << 32, 0, 1, 0}, api.EFORM},
		{[]int64{1, 5, 1, 0, math.MaxInt64, 2, 1, 0}, api.EFORM}, {[]int64{1, 5, 1, 0, math.MinInt64, 0, 1, 0}, api.EFORM},
		{[]int64{1, 5, 1, 0, 0, 3, 1, 0}, api.EFORM}, {[]int64{1, 5, 1, 0, 1, 3, 1, 0}, api.EFORM}, {[]int64{1, 5, 1, 0, 0, -1, 1, 0}, api.EFORM}, {[]int64{1, 5, 1, 0, 0, 1<<32 + 2, 1, 0}, api.EFORM}, {[]int64{1, 5, 1, 0, 1, 1<<32 + 1, 1, 0}, api.EFORM},
		{[]int64{1, 5, 1, 0, 0, math.MaxInt64, 1, 0}, api.EFORM}, {[]int64{1, 5, 1, 0, 0, math.MinInt64, 1, 0}, api.EFORM},
		// of two: not decided
		{[]int64{1, 5, 2, 0, 1, 0, 1, 0, 2, 0, 1}, api.OK}, {[]int64{1, 5, 2, 0, 1, 1, 0, 0, 2, 0, 1}, api.OK}, {[]int64{1, 5, 2, 0, 1, 1, 1, 0, 2, 0, 1}, api.EFORM}, {[]int64{1, 5, 2, 0, 1, 2, 0, 0, 2, 0, 1}, api.EFORM}, {[]int64{1, 5, 2, 0, 1, 1, 2, 0, 2, 0, 1}, api.EFORM},
		// to be committed
		{[]int64{1, 5, 2, 0, 1, 1, 1, 1, 2, 0, 1}, api.OK}, {[]int64{1, 5, 2, 0, 1, 1, 0, 1, 2, 0, 1}, api.EFORM}, {[]int64{1, 5, 2, 0, 1, 0, 0, 1, 2, 0, 1}, api.EFORM}, {[]int64{1, 5, 2, 0, 1, 1, 2, 1, 2, 0, 1}, api.EFORM}, {[]int64{1, 5, 2, 0, 1, 2, 1, 1, 2, 0, 1}, api.EFORM},
		// not to be committed
		{[]int64{1, 5, 2, 0, 1, 0, 0, 2, 2, 0, 1}, api.OK}, {[]int64{1, 5, 2, 0, 1, 0, 1, 2, 2, 0, 1}, api.OK}, {[]int64{1, 5, 2, 0, 1, 2, 0, 2, 2, 0, 1}, api.OK}, {[]int64{1, 5, 2, 0, 1, 1, 2, 2, 2, 0, 1}, api.OK}, {[]int64{1, 5, 2, 0, 1, 2, 1, 2, 2, 0, 1}, api.OK},
		{[]int64{1, 5, 2, 0, 1, 1, 1, 2, 2, 0, 1}, api.EFORM}, {[]int64{1, 5, 2, 0, 1, 2, 2, 2, 2, 0, 1}, api.EFORM},
		// two that are not ok: the first one decided it
		{[]int64{1, 5, 4, 0, 1, 2, 3, 2, 0, 0, 2, 2, 4, 0, 1, 2, 3}, api.EFORM}, {[]int64{1, 5, 4, 0, 1, 2, 3, 1, 0, 1, 2, 2, 4, 0, 1, 2, 3}, api.OK}, {[]int64{1, 5, 4, 0, 1, 2, 3, 1, 1, 1, 2, 2, 4, 0, 1, 2, 3}, api.OK}, {[]int64{1, 5, 4, 0, 1, 2, 3, 2, 1, 1, 1, 2, 4, 0, 1, 2, 3}, api.OK},
	})
}

// P20.1: who owes: some of its shards, rising; all where it is not decided.
func TestGetOwing(t *testing.T) {
	holdAll(t, []getCase{
		// not decided
		{[]int64{1, 5, 1, 0, 0, 0, 0}, api.EFORM}, {[]int64{1, 5, 2, 0, 1, 0, 1, 0, 1, 0}, api.EFORM}, {[]int64{1, 5, 2, 0, 1, 0, 1, 0, 1, 1}, api.EFORM}, {[]int64{1, 5, 2, 0, 1, 0, 1, 0, 0}, api.EFORM},
		// decided
		{[]int64{1, 5, 1, 0, 1, 1, 0}, api.OK}, {[]int64{1, 5, 1, 0, 0, 2, 0}, api.OK}, {[]int64{1, 5, 2, 1, 3, 1, 1, 1, 1, 1}, api.OK}, {[]int64{1, 5, 2, 1, 3, 1, 1, 1, 1, 3}, api.OK}, {[]int64{1, 5, 2, 1, 3, 1, 1, 1, 0}, api.OK},
		{[]int64{1, 5, 2, 1, 3, 0, 2, 2, 1, 1}, api.OK}, {[]int64{1, 5, 2, 1, 3, 0, 2, 2, 1, 3}, api.OK}, {[]int64{1, 5, 2, 1, 3, 0, 1, 2, 0}, api.OK},
		// none of its
		{[]int64{1, 5, 2, 1, 3, 1, 1, 1, 1, 0}, api.EFORM}, {[]int64{1, 5, 2, 1, 3, 1, 1, 1, 1, 2}, api.EFORM}, {[]int64{1, 5, 2, 1, 3, 1, 1, 1, 2, 2, 3}, api.EFORM}, {[]int64{1, 5, 1, 0, 1, 1, 1, 1}, api.EFORM}, {[]int64{1, 5, 1, 0, 0, 0, 1, 1}, api.EFORM}, {[]int64{1, 5, 1, 0, 0, 0, 2, 0, 1}, api.EFORM},
		{[]int64{1, 5, 1, 3, 1, 1, 1, 4}, api.EFORM}, {[]int64{1, 5, 1, 0, 1, 1, 1, -1}, api.EFORM}, {[]int64{1, 5, 1, 0, 1, 1, 1, 1 << 32}, api.EFORM}, {[]int64{1, 5, 1, 0, 1, 1, 1, math.MaxInt64}, api.EFORM}, {[]int64{1, 5, 1, 0, 1, 1, 1, math.MinInt64}, api.EFORM},
		// rising
		{[]int64{1, 5, 2, 1, 3, 1, 1, 1, 2, 3, 1}, api.EFORM}, {[]int64{1, 5, 2, 1, 3, 1, 1, 1, 2, 1, 1}, api.EFORM}, {[]int64{1, 5, 2, 1, 3, 0, 0, 0, 2, 3, 1}, api.EFORM}, {[]int64{1, 5, 2, 1, 3, 1, 1, 1, 3, 1, 3, 3}, api.EFORM}, {[]int64{1, 5, 1, 1, 1, 1, 2, 1, 1}, api.EFORM},
		// how many
		{[]int64{1, 5, 1, 0, 1, 1, -1}, api.EFORM}, {[]int64{1, 5, 1, 0, 1, 1, -1, 0}, api.EFORM}, {[]int64{1, 5, 1, 0, 1, 1, 5, 0}, api.EFORM}, {[]int64{1, 5, 1, 0, 1, 1, 5}, api.EFORM}, {[]int64{1, 5, 1, 0, 1, 1, 1}, api.EFORM}, {[]int64{1, 5, 1, 0, 1, 1, 0, 0}, api.EFORM},
		{[]int64{1, 5, 1, 0, 1, 1, math.MaxInt64}, api.EFORM}, {[]int64{1, 5, 1, 0, 1, 1, math.MinInt64}, api.EFORM}, {[]int64{1, 5, 1, 0, 1, 1, 1 << 32}, api.EFORM}, {[]int64{1, 5, 1, 0, 1, 1, 1<<32 + 1, 0}, api.EFORM},
		{[]int64{1, 5, 4, 0, 1, 2, 3, 1, 1, 1, 1, 1, 5, 0, 1, 2, 3, 3}, api.EFORM},
	})
}

// getCase is what Get is handed, and its error.
type getCase struct {
	list []int64
	want api.Errno
}

// holdAll holds Get of each: its error, and against the model too.
func holdAll(t *testing.T, cases []getCase) {
	t.Helper()
	for i, c := range cases {
		if e := holdGet(t, fmt.Sprint("number ", i), numbers(c.list...)); e != c.want {
			t.Errorf("number %d: %v: %d, want %d", i, c.list, e, c.want)
		}
	}
}
