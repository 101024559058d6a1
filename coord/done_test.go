package coord

import (
	"math"
	"slices"
	"testing"

	"aviary/api"
)

// P20.1: Done of an id that is not begun, or by a shard that is none of its, is ENONE; nothing changes.
func TestDoneNone(t *testing.T) {
	c := each(t)
	stays(t, c, func() {
		for _, id := range noneOf() {
			does(t, c, api.ENONE, id, 0)
			does(t, c, api.ENONE, id, 4)
		}
		// Of one that is not decided too: ENONE is named first.
		for id := int64(2); id <= 9; id++ {
			for _, s := range noneOfIts() {
				does(t, c, api.ENONE, id, s)
			}
		}
	})
}

// P20.1: Done of one that is not decided is EWAIT; nothing changes: all owe when it is decided.
func TestDoneTooEarly(t *testing.T) {
	c := each(t)
	stays(t, c, func() {
		for _, s := range []int{0, 2, 3} {
			does(t, c, api.EWAIT, 2, s)
			does(t, c, api.EWAIT, 3, s)
		}
	})
	votes(t, c, api.OK, 2, 0, true)
	votes(t, c, api.OK, 2, 3, true)
	stays(t, c, func() { does(t, c, api.EWAIT, 2, 0) })
	votes(t, c, api.OK, 2, 2, true)
	is(t, c, 2, committed, 0, 2, 3)
	votes(t, c, api.OK, 3, 0, false)
	is(t, c, 3, refused, 0, 2, 3)
}

// P20.1: the shards one by one, in whatever order, decided each way: each owes till its own Done, and once they are all
// done it is over; the decision stays.
func TestDone(t *testing.T) {
	for _, shards := range everyShards() {
		for _, order := range orders(shards) {
			for _, how := range []string{"all are ok", "one is not", "abort"} {
				c := of(t, shards...)
				want := refused
				switch how {
				case "all are ok":
					want = committed
					for _, s := range shards {
						votes(t, c, api.OK, 1, s, true)
					}
				case "one is not":
					votes(t, c, api.OK, 1, order[0], false)
				default:
					aborts(t, c, 1, false, api.OK)
				}
				owing := slices.Clone(shards)
				for _, s := range order {
					is(t, c, 1, want, owing...)
					opens(t, c, 1)
					does(t, c, api.OK, 1, s)
					owing = slices.DeleteFunc(owing, func(o int) bool { return o == s })
				}
				is(t, c, 1, want)
				opens(t, c)
			}
		}
	}
}

// P20.1: a shard that does it twice is OK, and nothing changes: it does not stand for another one; so too when it is over.
func TestDoneTwice(t *testing.T) {
	c := each(t)
	for id := int64(4); id <= 6; id++ {
		does(t, c, api.OK, id, 2)
		stays(t, c, func() {
			does(t, c, api.OK, id, 2)
			does(t, c, api.OK, id, 2)
			does(t, c, api.OK, id, 2)
		})
	}
	is(t, c, 4, committed, 0, 3)
	opens(t, c, 2, 3, 4, 5, 6)
	stays(t, c, func() {
		for id := int64(7); id <= 9; id++ {
			for _, s := range []int{0, 2, 3} {
				does(t, c, api.OK, id, s)
			}
		}
	})
}

// P20.1: a shard that has not voted, or was not ok, owes as all do.
func TestDoneWithoutVote(t *testing.T) {
	c := of(t, 0, 1, 2)
	votes(t, c, api.OK, 1, 1, false)
	does(t, c, api.OK, 1, 0)
	is(t, c, 1, refused, 1, 2)
	does(t, c, api.OK, 1, 1)
	is(t, c, 1, refused, 2)
	does(t, c, api.OK, 1, 2)
	is(t, c, 1, refused)
	opens(t, c)
}

// P20.1: one id's Done is no other one's.
func TestDoneOfOne(t *testing.T) {
	c := each(t)
	does(t, c, api.OK, 5, 0)
	does(t, c, api.OK, 5, 3)
	is(t, c, 4, committed, 0, 2, 3)
	is(t, c, 5, refused, 2)
	is(t, c, 6, refused, 0, 2, 3)
	is(t, c, 2, undecided, 0, 2, 3)
}

// P20.1: Owes tells rising, ahead of the decision and behind it; of one that is none nobody owes.
func TestOwes(t *testing.T) {
	c := New()
	begins(t, c, api.OK, 7, 0, 1, 2, 3)
	for _, s := range []int{3, 1} {
		votes(t, c, api.OK, 7, s, true)
		is(t, c, 7, undecided, 0, 1, 2, 3)
	}
	aborts(t, c, 7, false, api.OK)
	is(t, c, 7, refused, 0, 1, 2, 3)
	does(t, c, api.OK, 7, 1)
	is(t, c, 7, refused, 0, 2, 3)
	does(t, c, api.OK, 7, 3)
	is(t, c, 7, refused, 0, 2)
	for _, id := range []int64{0, 1, 6, 8, -7, 1<<32 + 7, math.MaxInt64, math.MinInt64} {
		is(t, c, id, undecided)
	}
	opens(t, c, 7)
}

// P20.1: Open tells rising, whatever the order of Begins: those not decided, and those of which somebody owes.
func TestOpen(t *testing.T) {
	c := each(t)
	opens(t, c, 2, 3, 4, 5, 6)
	begins(t, c, api.OK, math.MaxInt64, 1)
	begins(t, c, api.OK, 1, 1)
	begins(t, c, api.OK, 1<<32, 3)
	opens(t, c, 1, 2, 3, 4, 5, 6, 1<<32, math.MaxInt64)
	for _, s := range []int{0, 2} {
		does(t, c, api.OK, 4, s)
		does(t, c, api.OK, 5, s)
	}
	opens(t, c, 1, 2, 3, 4, 5, 6, 1<<32, math.MaxInt64)
	does(t, c, api.OK, 4, 3)
	opens(t, c, 1, 2, 3, 5, 6, 1<<32, math.MaxInt64)
	does(t, c, api.OK, 5, 3)
	opens(t, c, 1, 2, 3, 6, 1<<32, math.MaxInt64)
	votes(t, c, api.OK, 1, 1, true)
	opens(t, c, 1, 2, 3, 6, 1<<32, math.MaxInt64)
	does(t, c, api.OK, 1, 1)
	opens(t, c, 2, 3, 6, 1<<32, math.MaxInt64)
	aborts(t, c, math.MaxInt64, false, api.OK)
	does(t, c, api.OK, math.MaxInt64, 1)
	opens(t, c, 2, 3, 6, 1<<32)
}

// R4: what is handed out is the caller's, spare room too, and no two answers share any.
func TestHandedOut(t *testing.T) {
	c := each(t)
	open, again := c.Open(), c.Open()
	owes, others := c.Owes(4), c.Owes(5)
	for i := range cap(open) {
		open[:cap(open)][i] = -1
	}
	for i := range cap(owes) {
		owes[:cap(owes)][i] = -1
	}
	if !slices.Equal(again, []int64{2, 3, 4, 5, 6}) || !slices.Equal(others, []int{0, 2, 3}) {
		t.Errorf("another answer has changed: %v, %v", again, others)
	}
	opens(t, c, 2, 3, 4, 5, 6)
	is(t, c, 4, committed, 0, 2, 3)
	does(t, c, api.OK, 4, 3)
	if !slices.Equal(others, []int{0, 2, 3}) || !slices.Equal(again, []int64{2, 3, 4, 5, 6}) {
		t.Errorf("an answer has changed behind: %v, %v", again, others)
	}
}
