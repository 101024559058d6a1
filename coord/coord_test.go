package coord

import (
	"math"
	"slices"
	"testing"

	"aviary/api"
)

// The calls are as the chapter writes them.
var (
	_ func() *Coord                            = New
	_ func(*Coord, int64, ...int) api.Errno    = (*Coord).Begin
	_ func(*Coord, int64, int, bool) api.Errno = (*Coord).Vote
	_ func(*Coord, int64) (bool, bool)         = (*Coord).Decision
	_ func(*Coord, int64, int) api.Errno       = (*Coord).Done
	_ func(*Coord) []int64                     = (*Coord).Open
	_ func(*Coord, int64) []int                = (*Coord).Owes
	_ func(*Coord, int64) (bool, api.Errno)    = (*Coord).Abort
	_ func(*Coord) []byte                      = (*Coord).Put
	_ func([]byte) (*Coord, api.Errno)         = Get
)

// The answers of Decision, in a word.
const (
	undecided = "undecided"
	committed = "committed"
	refused   = "refused"
)

func begins(t *testing.T, c *Coord, want api.Errno, id int64, shards ...int) {
	t.Helper()
	if e := c.Begin(id, shards...); e != want {
		t.Fatalf("Begin(%d, %v): %d, want %d", id, shards, e, want)
	}
}

func votes(t *testing.T, c *Coord, want api.Errno, id int64, shard int, ok bool) {
	t.Helper()
	if e := c.Vote(id, shard, ok); e != want {
		t.Fatalf("Vote(%d, %d, %v): %d, want %d", id, shard, ok, e, want)
	}
}

func does(t *testing.T, c *Coord, want api.Errno, id int64, shard int) {
	t.Helper()
	if e := c.Done(id, shard); e != want {
		t.Fatalf("Done(%d, %d): %d, want %d", id, shard, e, want)
	}
}

func aborts(t *testing.T, c *Coord, id int64, commit bool, want api.Errno) {
	t.Helper()
	if got, e := c.Abort(id); got != commit || e != want {
		t.Fatalf("Abort(%d): %v, %d, want %v, %d", id, got, e, commit, want)
	}
}

// is holds one's decision, in a word, and who owes.
func is(t *testing.T, c *Coord, id int64, decision string, owing ...int) {
	t.Helper()
	commit, known := c.Decision(id)
	if commit != (decision == committed) || known != (decision != undecided) {
		t.Fatalf("Decision(%d): %v, %v, want %s", id, commit, known, decision)
	}
	if got := c.Owes(id); !slices.Equal(got, owing) {
		t.Fatalf("Owes(%d): %v, want %v", id, got, owing)
	}
}

func opens(t *testing.T, c *Coord, ids ...int64) {
	t.Helper()
	if got := c.Open(); !slices.Equal(got, ids) {
		t.Fatalf("Open: %v, want %v", got, ids)
	}
}

// stays holds that calls change nothing that a later call could tell.
func stays(t *testing.T, c *Coord, calls func()) {
	t.Helper()
	before, open := c.Put(), c.Open()
	calls()
	if got := c.Put(); string(got) != string(before) {
		t.Fatalf("something has changed: %x, was %x", got, before)
	}
	opens(t, c, open...)
}

// of makes one that has id 1 begun, of these shards.
func of(t *testing.T, shards ...int) *Coord {
	t.Helper()
	c := New()
	begins(t, c, api.OK, 1, shards...)
	return c
}

// each makes one that has each kind: 2 and 3 not decided, 4 to be committed, 5 refused by a shard, 6 by Abort, of
// each of these 7 to 9 wholly done; 1 was never begun.
func each(t *testing.T) *Coord {
	t.Helper()
	c := New()
	for _, id := range []int64{9, 4, 2, 7, 5, 3, 8, 6} {
		begins(t, c, api.OK, id, 0, 2, 3)
	}
	votes(t, c, api.OK, 3, 2, true)
	for _, id := range []int64{4, 7} {
		for _, s := range []int{3, 0, 2} {
			votes(t, c, api.OK, id, s, true)
		}
	}
	for _, id := range []int64{5, 8} {
		votes(t, c, api.OK, id, 3, true)
		votes(t, c, api.OK, id, 0, false)
	}
	for _, id := range []int64{6, 9} {
		votes(t, c, api.OK, id, 2, true)
		aborts(t, c, id, false, api.OK)
	}
	for _, id := range []int64{7, 8, 9} {
		for _, s := range []int{2, 3, 0} {
			does(t, c, api.OK, id, s)
		}
	}
	return c
}

// noneOf are ids that each has not.
func noneOf() []int64 {
	return []int64{1, 10, 0, -1, -2, -4, math.MinInt64, math.MinInt64 + 4, math.MaxInt64, 1 << 32, 1<<32 + 4, 1<<32 + 7}
}

// noneOfIts are shards that none of each has.
func noneOfIts() []int {
	return []int{1, 4, 5, -1, -2, -4, 1 << 32, 1<<32 + 2, math.MaxInt, math.MinInt, math.MinInt + 2}
}

// DOC.md's and the chapter's examples.
func TestExample(t *testing.T) {
	c := New()
	begins(t, c, api.OK, 1, 0, 1)
	votes(t, c, api.OK, 1, 0, true)
	is(t, c, 1, undecided, 0, 1)
	votes(t, c, api.OK, 1, 1, true)
	is(t, c, 1, committed, 0, 1)

	c = New()
	begins(t, c, api.OK, 1, 0, 1)
	votes(t, c, api.OK, 1, 0, false)
	is(t, c, 1, refused, 0, 1)
}

// P20.1: a new one has none.
func TestNew(t *testing.T) {
	c := New()
	opens(t, c)
	for _, id := range noneOf() {
		is(t, c, id, undecided)
		votes(t, c, api.ENONE, id, 0, true)
		does(t, c, api.ENONE, id, 0)
		aborts(t, c, id, false, api.ENONE)
	}
	opens(t, c)
	if string(c.Put()) != string(numbers(0)) {
		t.Errorf("Put: %x", c.Put())
	}
}

// P20.1: what one is told another does not know.
func TestApart(t *testing.T) {
	a, b := New(), New()
	begins(t, a, api.OK, 1, 0)
	opens(t, b)
	begins(t, b, api.OK, 1, 1, 2)
	votes(t, a, api.OK, 1, 0, true)
	does(t, a, api.OK, 1, 0)
	is(t, a, 1, committed)
	is(t, b, 1, undecided, 1, 2)
	opens(t, a)
	opens(t, b, 1)
}

// P20.1: Begin takes no id below 1; nothing changes.
func TestBeginIDs(t *testing.T) {
	c := each(t)
	stays(t, c, func() {
		for _, id := range []int64{0, -1, -2, -1 << 32, math.MinInt64, math.MinInt64 + 1} {
			begins(t, c, api.EARG, id, 0)
			begins(t, c, api.EARG, id, 0, 1, 2, 3)
		}
	})
	for _, id := range []int64{math.MaxInt64, 1, 1<<32 + 2, 1 << 32, 10} {
		begins(t, c, api.OK, id, 0)
		is(t, c, id, undecided, 0)
	}
	opens(t, c, 1, 2, 3, 4, 5, 6, 10, 1<<32, 1<<32+2, math.MaxInt64)
}

// P20.1: Begin takes shards alone that rise from 0 to MaxShard - 1, and some; nothing changes.
func TestBeginShards(t *testing.T) {
	c := each(t)
	stays(t, c, func() {
		for _, shards := range [][]int{
			nil, {},
			{-1}, {4}, {5}, {math.MaxInt}, {math.MinInt}, {1 << 32}, {1<<32 + 1}, {-1 << 32},
			{0, 0}, {3, 3}, {1, 0}, {3, 0}, {3, 2}, {0, 1, 1}, {0, 2, 1}, {1, 2, 0}, {0, 1, 2, 2}, {0, 1, 3, 2}, {3, 2, 1, 0},
			{-1, 0}, {-1, 0, 1, 2, 3}, {0, -1}, {0, 4}, {3, 4}, {0, 1, 2, 3, 4}, {0, 1, 2, 3, 3}, {0, 1, 2, 3, 0}, {1, math.MaxInt}, {math.MinInt, 1},
			slices.Repeat([]int{0, 1, 2, 3}, 50),
		} {
			begins(t, c, api.EARG, 1, shards...)
			is(t, c, 1, undecided)
		}
	})
	begins(t, c, api.OK, 1, 0)
}

// P20.1: one shard, several, all: each of them is to vote, and owes, and no other one is.
func TestBeginWell(t *testing.T) {
	for _, shards := range everyShards() {
		c := of(t, shards...)
		is(t, c, 1, undecided, shards...)
		opens(t, c, 1)
		for s := -1; s <= 4; s++ {
			want := api.ENONE
			if slices.Contains(shards, s) {
				want = api.OK
			}
			votes(t, c, want, 1, s, true)
		}
		is(t, c, 1, committed, shards...)
	}
}

// P20.1: an id that was begun ever is EEXIST, of whatever shards that may be; nothing changes.
func TestBeginAgain(t *testing.T) {
	c := each(t)
	stays(t, c, func() {
		for id := int64(2); id <= 9; id++ {
			begins(t, c, api.EEXIST, id, 0, 2, 3)
			begins(t, c, api.EEXIST, id, 1)
			begins(t, c, api.EEXIST, id, 0, 1, 2, 3)
			// Of both errors it is the one that is named first.
			begins(t, c, api.EARG, id)
			begins(t, c, api.EARG, id, 4)
			begins(t, c, api.EARG, id, 2, 0)
		}
	})
}

// P20.1: Vote for an id that is not begun, or by a shard that is none of its, is ENONE; nothing changes.
func TestVoteNone(t *testing.T) {
	c := each(t)
	stays(t, c, func() {
		for _, ok := range []bool{true, false} {
			for _, id := range noneOf() {
				votes(t, c, api.ENONE, id, 0, ok)
				votes(t, c, api.ENONE, id, -1, ok)
			}
			for id := int64(2); id <= 9; id++ {
				for _, s := range noneOfIts() {
					votes(t, c, api.ENONE, id, s, ok)
				}
			}
		}
	})
}

// P20.1: a shard that has voted votes no more, either way; the others' votes are still asked.
func TestVoteAgain(t *testing.T) {
	c := of(t, 1, 2, 3)
	votes(t, c, api.OK, 1, 2, true)
	stays(t, c, func() {
		votes(t, c, api.OK, 1, 2, true)
		votes(t, c, api.OK, 1, 2, false)
		votes(t, c, api.OK, 1, 2, true)
	})
	is(t, c, 1, undecided, 1, 2, 3)
	votes(t, c, api.OK, 1, 1, true)
	stays(t, c, func() {
		votes(t, c, api.OK, 1, 1, false)
		votes(t, c, api.OK, 1, 2, false)
	})
	votes(t, c, api.OK, 1, 3, true)
	is(t, c, 1, committed, 1, 2, 3)
}

// P20.1: behind the decision no vote changes anything, of those that have voted and of those that have not.
func TestVoteDecided(t *testing.T) {
	c := each(t)
	stays(t, c, func() {
		for id := int64(4); id <= 9; id++ {
			for _, s := range []int{0, 2, 3} {
				votes(t, c, api.OK, id, s, true)
				votes(t, c, api.OK, id, s, false)
			}
		}
	})
	is(t, c, 4, committed, 0, 2, 3)
	is(t, c, 5, refused, 0, 2, 3)
	is(t, c, 6, refused, 0, 2, 3)
	is(t, c, 7, committed)
	is(t, c, 8, refused)
	is(t, c, 9, refused)
}

// P20.1: ok of all decides it, in whatever order they vote, and ok of fewer does not.
func TestVoteOK(t *testing.T) {
	for _, shards := range everyShards() {
		for _, order := range orders(shards) {
			c := of(t, shards...)
			for _, s := range order {
				is(t, c, 1, undecided, shards...)
				votes(t, c, api.OK, 1, s, true)
			}
			is(t, c, 1, committed, shards...)
			opens(t, c, 1)
		}
	}
}

// P20.1: one that is not ok decides it at once, whichever it is and however many were ok ahead of it.
func TestVoteNotOK(t *testing.T) {
	for _, shards := range everyShards() {
		for _, order := range orders(shards) {
			for at, against := range order {
				c := of(t, shards...)
				for _, s := range order[:at] {
					votes(t, c, api.OK, 1, s, true)
				}
				is(t, c, 1, undecided, shards...)
				votes(t, c, api.OK, 1, against, false)
				is(t, c, 1, refused, shards...)
				stays(t, c, func() {
					for _, s := range order {
						votes(t, c, api.OK, 1, s, true)
					}
				})
			}
		}
	}
}

// P20.1: one id's votes are no other one's.
func TestVoteOfOne(t *testing.T) {
	c := New()
	begins(t, c, api.OK, 2, 0, 1)
	begins(t, c, api.OK, 1, 0, 1)
	votes(t, c, api.OK, 1, 0, true)
	votes(t, c, api.OK, 2, 1, true)
	is(t, c, 1, undecided, 0, 1)
	is(t, c, 2, undecided, 0, 1)
	votes(t, c, api.OK, 2, 0, false)
	is(t, c, 1, undecided, 0, 1)
	is(t, c, 2, refused, 0, 1)
	votes(t, c, api.OK, 1, 1, true)
	is(t, c, 1, committed, 0, 1)
	is(t, c, 2, refused, 0, 1)
}

// P20.1: Decision of one that is not begun, not decided, decided each way; that all have done it changes none.
func TestDecision(t *testing.T) {
	c := each(t)
	for _, id := range noneOf() {
		is(t, c, id, undecided)
	}
	is(t, c, 2, undecided, 0, 2, 3)
	is(t, c, 3, undecided, 0, 2, 3)
	for id, want := range map[int64]string{4: committed, 5: refused, 6: refused} {
		is(t, c, id, want, 0, 2, 3)
		is(t, c, id+3, want)
	}
	stays(t, c, func() {
		for id := range int64(12) {
			c.Decision(id)
		}
	})
}

// P20.1: Abort of one that is not begun is ENONE; nothing changes.
func TestAbortNone(t *testing.T) {
	c := each(t)
	stays(t, c, func() {
		for _, id := range noneOf() {
			aborts(t, c, id, false, api.ENONE)
			is(t, c, id, undecided)
		}
	})
	begins(t, c, api.OK, 1, 0)
	is(t, c, 1, undecided, 0)
}

// P20.1: Abort decides one that is not decided, whatever was voted; no vote changes that, and all owe.
func TestAbort(t *testing.T) {
	for _, shards := range everyShards() {
		for voted := range shards {
			c := of(t, shards...)
			begins(t, c, api.OK, 2, shards...)
			for _, s := range shards[:voted] {
				votes(t, c, api.OK, 1, s, true)
			}
			aborts(t, c, 1, false, api.OK)
			is(t, c, 1, refused, shards...)
			is(t, c, 2, undecided, shards...)
			opens(t, c, 1, 2)
			stays(t, c, func() {
				for _, s := range shards {
					votes(t, c, api.OK, 1, s, true)
				}
				aborts(t, c, 1, false, api.OK)
			})
		}
	}
}

// P20.1: Abort of one that is decided tells how, and changes nothing.
func TestAbortDecided(t *testing.T) {
	c := each(t)
	does(t, c, api.OK, 4, 2)
	does(t, c, api.OK, 5, 0)
	does(t, c, api.OK, 6, 3)
	stays(t, c, func() {
		for range 2 {
			for id := int64(4); id <= 9; id++ {
				aborts(t, c, id, id == 4 || id == 7, api.OK)
			}
		}
	})
	is(t, c, 4, committed, 0, 3)
	is(t, c, 5, refused, 2, 3)
	is(t, c, 6, refused, 0, 2)
}

// R4: Begin neither changes nor keeps the list that it is handed, spare room included.
func TestBeginMemory(t *testing.T) {
	room := []int{1, 3, 7, 8}
	c := New()
	begins(t, c, api.OK, 1, room[:2]...)
	begins(t, c, api.EEXIST, 1, room[:2]...)
	begins(t, c, api.EARG, 2, room[:3]...)
	if !slices.Equal(room, []int{1, 3, 7, 8}) {
		t.Fatalf("the list is %v", room)
	}
	room[0], room[1] = 0, 2
	is(t, c, 1, undecided, 1, 3)
	votes(t, c, api.ENONE, 1, 0, true)
	votes(t, c, api.OK, 1, 1, true)
}

// everyShards tells all lists of shards that Begin takes.
func everyShards() [][]int {
	var lists [][]int
	for set := 1; set < 16; set++ {
		var shards []int
		for s := range 4 {
			if set>>s&1 == 1 {
				shards = append(shards, s)
			}
		}
		lists = append(lists, shards)
	}
	return lists
}

// orders tells all orders of some shards.
func orders(shards []int) [][]int {
	if len(shards) == 0 {
		return [][]int{nil}
	}
	var all [][]int
	for i, first := range shards {
		for _, rest := range orders(slices.Delete(slices.Clone(shards), i, i+1)) {
			all = append(all, append([]int{first}, rest...))
		}
	}
	return all
}
