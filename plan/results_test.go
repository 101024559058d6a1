package plan

import (
	"fmt"
	"math"
	"reflect"
	"slices"
	"strconv"
	"testing"

	"aviary/api"
)

// resultsOf makes n Results with all fields set, each with a word of its own.
func resultsOf(word string, n int) []api.Result {
	var list []api.Result
	for i := range n {
		s := word + strconv.Itoa(i)
		list = append(list, api.Result{
			Err: api.Errno(i), Path: "/" + s, Data: s, Names: []string{s, s + "-"},
			Stat: api.Stat{Made: int64(i + 1), Changed: int64(i + 2), Version: i + 3, Kids: i + 4, Owner: int64(i + 5), Length: i + 6, Count: i + 7},
		})
	}
	return list
}

// refuses holds that lists are not put together: EARG, and nothing.
func refuses(t *testing.T, p Plan, l ...[]api.Result) {
	t.Helper()
	if got, e := p.Results(l...); e != api.EARG || len(got) != 0 {
		t.Errorf("of the places %v, Results of %d lists: %d Results, %d", p.Places, len(l), len(got), e)
	}
}

// puts holds what lists come to: the Results' words, in order.
func puts(t *testing.T, p Plan, want string, l ...[]api.Result) {
	t.Helper()
	list, e := p.Results(l...)
	words := []string{}
	for _, one := range list {
		words = append(words, one.Data)
	}
	if s := fmt.Sprint(words); e != api.OK || s != want {
		t.Errorf("of the places %v, Results: %s %d, want %s", p.Places, s, e, want)
	}
}

// P19.1: Results are told in the request's order, whatever the shards' is.
func TestResults(t *testing.T) {
	puts(t, planned(t, "/d"), "[d0]", resultsOf("d", 1))
	puts(t, planned(t, "/d", "/d/x", "/d"), "[d0 d1 d2]", resultsOf("d", 3))
	puts(t, planned(t, "/a", "/b"), "[a0 b0]", resultsOf("a", 1), resultsOf("b", 1))
	puts(t, planned(t, "/b", "/a"), "[b0 a0]", resultsOf("a", 1), resultsOf("b", 1))
	puts(t, planned(t, "/d", "/b", "/b/x", "/d/x"), "[d0 b0 b1 d1]", resultsOf("b", 2), resultsOf("d", 2))
	puts(t, three(t), "[b0 a0 b1 a1 c0]", resultsOf("a", 2), resultsOf("b", 2), resultsOf("c", 1))
	puts(t, planned(t, "/d", "/c", "/b", "/a", "/d/x"), "[d0 c0 b0 a0 d1]", resultsOf("a", 1), resultsOf("b", 1), resultsOf("c", 1), resultsOf("d", 2))
	puts(t, Plan{}, "[]")
	most := make([]string, api.MaxOps)
	want := make([]string, api.MaxOps)
	for i := range most {
		most[i] = []string{"/b", "/a"}[i%2]
		want[i] = []string{"b", "a"}[i%2] + strconv.Itoa(i/2)
	}
	puts(t, planned(t, most...), fmt.Sprint(want), resultsOf("a", 8), resultsOf("b", 8))
}

// P19.1: a Result is told with each of its fields, whatever they are.
func TestResultsAreWhole(t *testing.T) {
	p := planned(t, "/b", "/a", "/b/x")
	a, b := resultsOf("a", 1), resultsOf("b", 2)
	a[0].Made, a[0].Version, a[0].Err = math.MinInt64, math.MinInt, -1
	b[0].Names, b[1].Names = nil, []string{"", "z", "a"}
	got, e := p.Results(a, b)
	if want := []api.Result{b[0], a[0], b[1]}; e != api.OK || !reflect.DeepEqual(got, want) {
		t.Errorf("Results: %v %d, want %v", got, e, want)
	}
	got, e = p.Results(make([]api.Result, 1), make([]api.Result, 2))
	if e != api.OK || !reflect.DeepEqual(got, make([]api.Result, 3)) {
		t.Errorf("Results of noughts: %v %d", got, e)
	}
}

// P19.1, R2: fewer and more lists than shards: EARG, and nothing, whatever they hold.
func TestResultsOfAnotherNumber(t *testing.T) {
	for shards, paths := range [][]string{{}, {"/b"}, {"/a", "/b"}, {"/d", "/c", "/b"}, {"/d", "/c", "/b", "/a"}} {
		p := Plan{}
		if shards > 0 {
			p = planned(t, paths...)
		}
		for n := range 9 {
			if n == shards {
				continue
			}
			refuses(t, p, make([][]api.Result, n)...)
			refuses(t, p, slices.Repeat([][]api.Result{resultsOf("x", 1)}, n)...)
			refuses(t, p, slices.Repeat([][]api.Result{resultsOf("x", len(paths))}, n)...)
		}
	}
	refuses(t, three(t), make([][]api.Result, 1<<16)...)
	all := three(t)
	refuses(t, all, resultsOf("a", 2), resultsOf("b", 2), resultsOf("c", 1), nil)
	refuses(t, all, resultsOf("a", 2), resultsOf("b", 3))
}

// P19.1, R2: a list shorter or longer than its shard's Ops: EARG, and nothing, wherever it stands, also where there are as
// many Results in all.
func TestResultsOfAnotherLength(t *testing.T) {
	p := three(t)
	counts := []int{2, 2, 1}
	for i, count := range counts {
		for n := range 7 {
			lists := [][]api.Result{resultsOf("a", 2), resultsOf("b", 2), resultsOf("c", 1)}
			lists[i] = resultsOf("x", n)
			if n != count {
				refuses(t, p, lists...)
			}
		}
	}
	refuses(t, p, resultsOf("a", 1), resultsOf("b", 2), resultsOf("c", 2))
	refuses(t, p, resultsOf("a", 2), resultsOf("b", 3), nil)
	refuses(t, p, resultsOf("a", 5), nil, nil)
	refuses(t, p, nil, nil, nil)
	refuses(t, p, []api.Result{}, []api.Result{}, []api.Result{})
	refuses(t, p, resultsOf("a", 2), resultsOf("b", 2), make([]api.Result, 1<<16))
	refuses(t, planned(t, "/a"), nil)
	refuses(t, planned(t, "/a"), resultsOf("a", 2))
}

// R4: Results changes no list that it is handed, spare room and Names included.
func TestResultsLeavesItsLists(t *testing.T) {
	p := three(t)
	wholes := [][]api.Result{resultsOf("a", 4), resultsOf("b", 3), resultsOf("c", 2)}
	before := [][]api.Result{resultsOf("a", 4), resultsOf("b", 3), resultsOf("c", 2)}
	lists := [][]api.Result{wholes[0][:2], wholes[1][:2], wholes[2][:1], wholes[0]}
	puts(t, p, "[b0 a0 b1 a1 c0]", lists[:3]...)
	refuses(t, p, lists...)
	refuses(t, p, wholes...)
	if !reflect.DeepEqual(wholes, before) || len(lists[0]) != 2 || len(lists[3]) != 4 {
		t.Errorf("Results has made %v of the lists", wholes)
	}
}

// R4: what Results hands out is the caller's: it shares no memory with the lists, nor do its own lists with one another, and
// what is done to one the plan does not know.
func TestResultsAreTheCallers(t *testing.T) {
	p := planned(t, "/b", "/a", "/b/x", "/a/x")
	names := make([]string, 2, 8)
	one := func() []api.Result { return []api.Result{{Data: "x", Names: names[:2]}, {Data: "y", Names: names[:1]}} }
	a := one()
	first, _ := p.Results(a, a)
	second, _ := p.Results(a, a)
	for i := range first {
		for k := range first[i].Names[:cap(first[i].Names)] {
			first[i].Names[:cap(first[i].Names)][k] = strconv.Itoa(i)
		}
	}
	for i, n := range []int{2, 2, 1, 1} {
		if want := slices.Repeat([]string{strconv.Itoa(i)}, n); !slices.Equal(first[i].Names, want) {
			t.Errorf("Names of number %d: %q, want %q", i, first[i].Names, want)
		}
		if !slices.Equal(second[i].Names, make([]string, n)) {
			t.Errorf("Names of number %d of another call: %q", i, second[i].Names)
		}
	}
	clear(first[:cap(first)])
	if !slices.Equal(names[:8], make([]string, 8)) || !reflect.DeepEqual(a, one()) {
		t.Errorf("the lists that were handed in: %v", a)
	}
	names[0], a[1].Data = "!", "!"
	if second[0].Names[0] != "" || second[2].Data != "y" || second[3].Data != "y" {
		t.Errorf("what was handed out: %v", second)
	}
}

// R4: Names that are empty, with room behind them, are not handed on with that room.
func TestResultsOfEmptyNames(t *testing.T) {
	room := []string{"x", "y"}
	got, e := planned(t, "/a").Results([]api.Result{{Names: room[:0]}})
	if e != api.OK || len(got) != 1 || len(got[0].Names) != 0 {
		t.Fatalf("Results: %v %d", got, e)
	}
	_ = append(got[0].Names, "z")
	if room[0] != "x" {
		t.Errorf("the room behind empty Names is shared")
	}
}
