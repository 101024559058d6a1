package plan

import (
	"fmt"
	"math/rand"
	"reflect"
	"strconv"
	"testing"

	"aviary/api"
	"aviary/op"
	"aviary/route"
)

// model is the chapter's words, one by one: of each Op its shard.
type model struct {
	r     op.Request
	whose []int
}

func modelOf(x *route.Table, r op.Request) model {
	m := model{r: r}
	for _, o := range r.Ops {
		m.whose = append(m.whose, x.Of(o.Path))
	}
	return m
}

// places tells where a shard's Ops stand.
func (m model) places(shard int) []int {
	var list []int
	for at, s := range m.whose {
		if s == shard {
			list = append(list, at)
		}
	}
	return list
}

func (m model) shards() []int {
	var list []int
	for shard := range api.MaxShard {
		if len(m.places(shard)) > 0 {
			list = append(list, shard)
		}
	}
	return list
}

func (m model) ops(shard int) []api.Op {
	var list []api.Op
	for _, at := range m.places(shard) {
		list = append(list, m.r.Ops[at])
	}
	return list
}

// at tells a vote's place as the request's.
func (m model) at(shard int, v Vote) int {
	for k, at := range m.places(shard) {
		if k == v.At {
			return at
		}
	}
	return -1
}

// verdict looks for what is told place by place, and shard by shard.
func (m model) verdict(votes []Vote) (api.Errno, int) {
	shards := m.shards()
	if len(votes) != len(shards) {
		return api.EARG, -1
	}
	for _, busyOnes := range []bool{true, false} {
		for at := -1; at < len(m.r.Ops); at++ {
			for i, v := range votes {
				if v.Err != api.OK && (v.Err == api.EBUSY || !busyOnes) && m.at(shards[i], v) == at {
					return v.Err, at
				}
			}
		}
	}
	return api.OK, -1
}

// results takes the request's Ops in order, and of each its shard's next Result.
func (m model) results(l [][]api.Result) ([]api.Result, api.Errno) {
	shards := m.shards()
	if len(l) != len(shards) {
		return nil, api.EARG
	}
	left := map[int][]api.Result{}
	for i, shard := range shards {
		if len(l[i]) != len(m.places(shard)) {
			return nil, api.EARG
		}
		left[shard] = l[i]
	}
	var list []api.Result
	for _, shard := range m.whose {
		list = append(list, left[shard][0])
		left[shard] = left[shard][1:]
	}
	return list, api.OK
}

// holds holds all that can be asked of a plan, votes and Results aside, against the model.
func holds(t *testing.T, what string, p Plan, m model) {
	t.Helper()
	shards := m.shards()
	if !op.Same(p.Request, m.r) {
		t.Fatalf("%s: Request: %v, want %v", what, p.Request, m.r)
	}
	want := []string{fmt.Sprint(shards), strconv.Itoa(len(shards)), strconv.Itoa(shards[0]), strconv.FormatBool(len(shards) == 1)}
	got := []string{fmt.Sprint(p.Shards), strconv.Itoa(len(p.Places)), strconv.Itoa(p.First()), strconv.FormatBool(p.Local())}
	if fmt.Sprint(got) != fmt.Sprint(want) {
		t.Fatalf("%s: Shards, how many Places, First, Local: %v, want %v", what, got, want)
	}
	for i, shard := range shards {
		if got, want := fmt.Sprint(p.Places[i]), fmt.Sprint(m.places(shard)); got != want {
			t.Fatalf("%s: Places of shard %d: %s, want %s", what, shard, got, want)
		}
	}
	for shard := -2; shard <= api.MaxShard+1; shard++ {
		if got, want := fmt.Sprint(p.Ops(shard)), fmt.Sprint(m.ops(shard)); got != want {
			t.Fatalf("%s: Ops(%d): %s, want %s", what, shard, got, want)
		}
	}
}

// votes holds what Verdict answers against the model.
func votes(t *testing.T, p Plan, m model, l ...Vote) {
	t.Helper()
	e, at := p.Verdict(l...)
	if wantE, wantAt := m.verdict(l); e != wantE || at != wantAt {
		t.Fatalf("of the places %v, Verdict(%v): %d %d, want %d %d", p.Places, l, e, at, wantE, wantAt)
	}
}

// answers holds what Results answers against the model.
func answers(t *testing.T, p Plan, m model, l ...[]api.Result) {
	t.Helper()
	got, e := p.Results(l...)
	want, wantE := m.results(l)
	if e != wantE || len(got) != len(want) || e == api.OK && !reflect.DeepEqual(got, want) {
		t.Fatalf("of the places %v, Results(%v): %v %d, want %v %d", p.Places, l, got, e, want, wantE)
	}
}

// someTable makes one of so many shards with some first names moved.
func someTable(t *testing.T, r *rand.Rand) *route.Table {
	t.Helper()
	shards := 1 + r.Intn(api.MaxShard)
	x := tableOf(t, shards)
	for range r.Intn(6) {
		if e := x.Move(someName(r), r.Intn(shards)); e != api.OK {
			t.Fatalf("Move: %d", e)
		}
	}
	return x
}

func someName(r *rand.Rand) string { return string(rune('a' + r.Intn(6))) }

// someRequest makes one that may be, of up to most Ops.
func someRequest(r *rand.Rand, most int) op.Request {
	q := op.Request{Sess: 1 + r.Int63n(1<<40), Num: 1 + r.Int63n(1<<40)}
	for range 1 + r.Intn(most) {
		o := api.Op{Kind: 1 + r.Intn(api.Check), Path: "/" + someName(r)}
		if r.Intn(2) == 0 {
			o.Path += "/" + someName(r)
		}
		switch o.Kind {
		case api.Create:
			o.Data, o.Flags = someName(r), r.Intn(2)
		case api.Set:
			o.Data, o.Version = someName(r), r.Intn(3)-1
		default:
			o.Version = r.Intn(3) - 1
		}
		q.Ops = append(q.Ops, o)
	}
	return q
}

// someVotes makes one of each shard, and now and then one more or one fewer.
func someVotes(r *rand.Rand, shards int) []Vote {
	var list []Vote
	for range near(r, shards) {
		v := Vote{At: r.Intn(7) - 2}
		if r.Intn(3) > 0 {
			v.Err = api.Errno(r.Intn(17) - 1)
		}
		if r.Intn(4) == 0 {
			v.Err = api.EBUSY
		}
		list = append(list, v)
	}
	return list
}

// someResults makes a list of each shard, now and then too few or too many, or one that is too short or too long.
func someResults(r *rand.Rand, m model) [][]api.Result {
	var list [][]api.Result
	shards := m.shards()
	for i := range near(r, len(shards)) {
		n := r.Intn(3)
		if i < len(shards) {
			n = near(r, len(m.places(shards[i])))
		}
		list = append(list, resultsOf("s"+strconv.Itoa(i), n))
	}
	return list
}

// near tells a number, or now and then one more or one less.
func near(r *rand.Rand, n int) int {
	if r.Intn(6) > 0 {
		return n
	}
	return max(0, n-1+2*r.Intn(2))
}

// P19.1: long runs of plans, votes and Results.
func TestRuns(t *testing.T) {
	r := rand.New(rand.NewSource(19))
	for round := range 4000 {
		x := someTable(t, r)
		q := someRequest(r, api.MaxOps)
		p, e := Make(x, q)
		if e != api.OK {
			t.Fatalf("round %d: Make(%v): %d", round, q, e)
		}
		m := modelOf(x, q)
		holds(t, "round "+strconv.Itoa(round), p, m)
		for range 20 {
			votes(t, p, m, someVotes(r, len(p.Shards))...)
			answers(t, p, m, someResults(r, m)...)
		}
		holds(t, "behind the votes of round "+strconv.Itoa(round), p, m)
	}
}
