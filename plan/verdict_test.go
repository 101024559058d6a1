package plan

import (
	"math"
	"slices"
	"testing"

	"aviary/api"
)

var ok = Vote{api.OK, -1}

// verdict holds what comes of votes.
func verdict(t *testing.T, p Plan, e api.Errno, at int, votes ...Vote) {
	t.Helper()
	if gotE, gotAt := p.Verdict(votes...); gotE != e || gotAt != at {
		t.Errorf("of the places %v, Verdict(%v): %d %d, want %d %d", p.Places, votes, gotE, gotAt, e, at)
	}
}

// three makes a plan of the shards 0 (places 1, 3), 1 (0, 2) and 2 (4).
func three(t *testing.T) Plan {
	t.Helper()
	return planned(t, "/b/x", "/a", "/b/y", "/a/z", "/c")
}

// P19.1: fewer and more votes than shards: EARG, whatever they are.
func TestVerdictOfAnotherNumber(t *testing.T) {
	for shards, paths := range [][]string{{}, {"/b"}, {"/a", "/b"}, {"/d", "/c", "/b"}, {"/d", "/c", "/b", "/a"}} {
		p := Plan{}
		if shards > 0 {
			p = planned(t, paths...)
		}
		for n := range 9 {
			for _, v := range []Vote{ok, {}, {api.ENONE, 0}, {api.EBUSY, 0}, {api.EBUSY, -1}} {
				if n != shards {
					verdict(t, p, api.EARG, -1, slices.Repeat([]Vote{v}, n)...)
				}
			}
		}
		verdict(t, p, api.OK, -1, slices.Repeat([]Vote{ok}, shards)...)
	}
	verdict(t, three(t), api.EARG, -1, slices.Repeat([]Vote{ok}, 1<<16)...)
}

// P19.1: all OK: OK, and no place, whatever places the votes tell.
func TestVerdictOfAllOK(t *testing.T) {
	p := three(t)
	for _, at := range []int{-1, 0, 1, 2, 9, -2, math.MinInt, math.MaxInt} {
		verdict(t, p, api.OK, -1, Vote{api.OK, at}, ok, ok)
		verdict(t, p, api.OK, -1, ok, Vote{api.OK, at}, Vote{api.OK, at})
	}
	verdict(t, p, api.OK, -1, Vote{}, Vote{}, Vote{})
	verdict(t, planned(t, "/d"), api.OK, -1, Vote{api.OK, 0})
	verdict(t, Plan{}, api.OK, -1)
}

// P19.1: one that is not OK, at each place: its error, and its place as the request's.
func TestVerdictOfOneNo(t *testing.T) {
	p := three(t)
	places := [][]int{{1, 3}, {0, 2}, {4}}
	for e := api.EARG; e <= api.EWAIT; e++ {
		for i, list := range places {
			for at, want := range list {
				votes := []Vote{{api.OK, 0}, {api.OK, 1}, ok}
				votes[i] = Vote{e, at}
				verdict(t, p, e, want, votes...)
			}
		}
		verdict(t, planned(t, "/d", "/d/x", "/d/y"), e, 2, Vote{e, 2})
	}
	verdict(t, p, -7, 2, ok, Vote{-7, 1}, ok)
	verdict(t, p, math.MaxInt, 4, ok, ok, Vote{math.MaxInt, 0})
}

// P19.1: several that are not OK: the least place of the request, and its error; not the least of the shards' own places,
// nor the least error.
func TestVerdictOfSeveralNo(t *testing.T) {
	p := three(t)
	verdict(t, p, api.EEXIST, 0, Vote{api.ENONE, 0}, Vote{api.EEXIST, 0}, ok)
	verdict(t, p, api.ENONE, 1, Vote{api.ENONE, 0}, Vote{api.EEXIST, 1}, ok)
	verdict(t, p, api.EEXIST, 2, Vote{api.ENONE, 1}, Vote{api.EEXIST, 1}, ok)
	verdict(t, p, api.EEXIST, 0, Vote{api.ENONE, 1}, Vote{api.EEXIST, 0}, Vote{api.EARG, 0})
	verdict(t, p, api.EFULL, 3, Vote{api.EFULL, 1}, ok, Vote{api.ENONE, 0})
	verdict(t, p, api.EFULL, 2, ok, Vote{api.EFULL, 1}, Vote{api.ENONE, 0})
	verdict(t, p, api.ENONE, 2, Vote{api.EARG, 1}, Vote{api.ENONE, 1}, Vote{api.EFULL, 0})
	verdict(t, planned(t, "/d", "/c", "/b", "/a"), api.EKIDS, 0, Vote{1, 0}, Vote{2, 0}, Vote{3, 0}, Vote{api.EKIDS, 0})
}

// P19.1: EBUSY is told rather than all others, also where their places are less, or none; of several the least place.
func TestVerdictOfEBUSY(t *testing.T) {
	p, busy := three(t), api.EBUSY
	verdict(t, p, busy, 4, ok, ok, Vote{busy, 0})
	verdict(t, p, busy, 4, Vote{api.ENONE, 0}, Vote{api.ENONE, 0}, Vote{busy, 0})
	verdict(t, p, busy, 3, Vote{busy, 1}, Vote{api.ENONE, 0}, Vote{api.EWAIT, 0})
	verdict(t, p, busy, 2, Vote{api.EARG, 0}, Vote{busy, 1}, ok)
	verdict(t, p, busy, 4, Vote{api.ESESS, -1}, Vote{api.EARG, -1}, Vote{busy, 0})
	verdict(t, p, busy, 1, Vote{busy, 0}, Vote{busy, 1}, Vote{busy, 0})
	verdict(t, p, busy, 0, Vote{busy, 0}, Vote{busy, 0}, ok)
	verdict(t, p, busy, 2, Vote{busy, 1}, Vote{busy, 1}, ok)
	verdict(t, p, busy, 2, Vote{api.ENONE, 0}, Vote{busy, 1}, Vote{busy, 0})
	verdict(t, p, busy, 3, Vote{busy, 1}, Vote{api.ENONE, 0}, Vote{busy, 0})
	verdict(t, p, busy, -1, Vote{busy, 0}, Vote{busy, -1}, ok)
	verdict(t, p, busy, -1, Vote{api.ENONE, 0}, Vote{api.ESESS, -1}, Vote{busy, -1})
	verdict(t, p, busy, 0, Vote{13, -1}, Vote{busy, 0}, Vote{11, -1})
	for e := api.EARG; e <= api.EWAIT; e++ {
		if e != busy {
			verdict(t, p, busy, 3, Vote{busy, 1}, Vote{e, 0}, Vote{e, -1})
			verdict(t, p, busy, 4, Vote{e, -1}, Vote{e, 0}, Vote{busy, 0})
		}
	}
}

// P19.1: -1, and a place that is none of its shard's Ops, also where it is one of another's or of the request's: -1, the least
// of all.
func TestVerdictOfNoPlace(t *testing.T) {
	p := three(t)
	for i, count := range []int{2, 2, 1} {
		for _, at := range []int{-1, -2, -3, count, count + 1, 3, 4, 5, 9, 1 << 32, 1<<32 + 1, -1 << 32, math.MaxInt, math.MaxInt - 1, math.MinInt, math.MinInt + 1} {
			votes := []Vote{ok, ok, ok}
			votes[i] = Vote{api.ESESS, at}
			verdict(t, p, api.ESESS, -1, votes...)
			for j := range votes {
				if j != i {
					votes[j] = Vote{api.ENONE, 0}
				}
			}
			verdict(t, p, api.ESESS, -1, votes...)
			votes[i].Err = api.EBUSY
			verdict(t, p, api.EBUSY, -1, votes...)
		}
	}
}

// P19.1: of alike places the first shard's error is told.
func TestVerdictOfAlikePlaces(t *testing.T) {
	p := three(t)
	for _, a := range []int{-1, -2, 2, math.MaxInt} {
		for _, b := range []int{-1, -2, 2, math.MinInt} {
			verdict(t, p, api.ESESS, -1, Vote{api.ESESS, a}, Vote{api.ENONE, b}, ok)
			verdict(t, p, api.ENONE, -1, Vote{api.ENONE, a}, Vote{api.ESESS, b}, ok)
			verdict(t, p, api.EWAIT, -1, Vote{api.ENONE, 0}, Vote{api.EWAIT, a}, Vote{api.EARG, b})
			verdict(t, p, api.EARG, -1, Vote{api.EARG, a}, Vote{api.EFULL, 0}, Vote{api.EWAIT, b})
		}
	}
}

// P19.1: all votes of three shards, from a few errors and places, against the model.
func TestVerdictOfAllVotes(t *testing.T) {
	x, r := lettered(t), asks("/b/x", "/a", "/b/y", "/a/z", "/c")
	p, m := makes(t, x, r), modelOf(x, r)
	var all []Vote
	for _, e := range []api.Errno{api.OK, api.EBUSY, api.ENONE, api.EEXIST, api.ESYNTAX} {
		for at := -2; at <= 2; at++ {
			all = append(all, Vote{e, at})
		}
	}
	for _, a := range all {
		for _, b := range all {
			for _, c := range all {
				votes(t, p, m, a, b, c)
			}
		}
	}
}

// R4, R3: Verdict changes no list that it is handed, spare room included, keeps none, and tells the same again.
func TestVerdictLeavesItsList(t *testing.T) {
	p := three(t)
	whole := []Vote{{api.ENONE, 1}, {api.EBUSY, 1}, {api.EBUSY, 0}, {api.EWAIT, 7}, {api.EOFF, 8}}
	before := slices.Clone(whole)
	for range 3 {
		verdict(t, p, api.EBUSY, 2, whole[:3]...)
		verdict(t, p, api.EARG, -1, whole[:2]...)
		verdict(t, p, api.EARG, -1, whole...)
	}
	if !slices.Equal(whole, before) {
		t.Errorf("Verdict has made %v of the list", whole)
	}
	clear(whole)
	verdict(t, p, api.OK, -1, whole[:3]...)
}
