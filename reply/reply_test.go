package reply

import (
	"bytes"
	"encoding/binary"
	"math"
	"slices"
	"strconv"
	"strings"
	"testing"

	"aviary/api"
)

// fill makes a text of n bytes.
func fill(n int) string { return strings.Repeat("x", n) }

// names makes n Names that differ.
func names(n int) []string {
	var list []string
	for i := range n {
		list = append(list, "n"+strconv.Itoa(i))
	}
	return list
}

// results makes n Results that differ in each field.
func results(n int) []api.Result {
	var list []api.Result
	for i := range n {
		k := 100 * i
		list = append(list, api.Result{Err: api.Errno(k + 1), Path: "/p" + strconv.Itoa(i), Data: "d" + strconv.Itoa(i), Names: names(i),
			Stat: api.Stat{Made: int64(k + 2), Changed: int64(k + 3), Version: k + 4, Kids: k + 5, Owner: int64(k + 6), Length: k + 7, Count: k + 8}})
	}
	return list
}

// numbers writes numbers by the library's own rule.
func numbers(b []byte, list ...int64) []byte {
	for _, v := range list {
		b = binary.BigEndian.AppendUint64(b, uint64(v))
	}
	return b
}

// text writes a text by the library's own rule.
func text(b []byte, s string) []byte { return append(numbers(b, int64(len(s))), s...) }

// plain writes a reply by the promise's words, whether it may be got or not.
func plain(r Reply) []byte {
	b := numbers(nil, r.Num, r.Zxid, int64(r.Err), int64(r.At), int64(len(r.Results)))
	for _, x := range r.Results {
		b = text(text(numbers(b, int64(x.Err)), x.Path), x.Data)
		b = numbers(b, int64(len(x.Names)))
		for _, name := range x.Names {
			b = text(b, name)
		}
		s := x.Stat
		b = numbers(b, s.Made, s.Changed, int64(s.Version), int64(s.Kids), s.Owner, int64(s.Length), int64(s.Count))
	}
	return b
}

// one makes a reply of one Result.
func one(x api.Result) Reply { return Reply{Num: 1, Zxid: 2, At: -1, Results: []api.Result{x}} }

// small are replies that can be got, of few bytes.
func small() map[string]Reply {
	const least, most = math.MinInt64, math.MaxInt64
	return map[string]Reply{
		"nothing at all":  {},
		"no Results":      {Num: 7, Zxid: 8, Err: api.EBUSY, At: -1},
		"a failure":       Fail(5, api.EVERSION, 1, 3),
		"an ordinary one": {Num: 3, Zxid: 9, At: -1, Results: results(3)},
		"MaxOps Results":  {Num: 3, Zxid: 9, At: 15, Results: results(api.MaxOps)},
		"empty Results":   {Results: make([]api.Result, api.MaxOps)},
		"great numbers": {Num: most, Zxid: most, Err: most, At: most, Results: []api.Result{{Err: most,
			Stat: api.Stat{Made: most, Changed: most, Version: most, Kids: most, Owner: most, Length: most, Count: most}}}},
		"numbers below 0": {Num: least, Zxid: least, Err: least, At: least, Results: []api.Result{{Err: least,
			Stat: api.Stat{Made: least, Changed: least, Version: least, Kids: least, Owner: least, Length: least, Count: least}}}},
		"numbers at 2^32": {Num: 1 << 32, Zxid: 1<<32 + 1, Err: 1 << 32, At: -1 << 32, Results: []api.Result{{Err: 1<<32 - 1,
			Stat: api.Stat{Made: 1 << 32, Changed: 1 << 31, Version: 1 << 32, Kids: 1 << 31, Owner: -1 << 31, Length: -1<<31 - 1, Count: 1 << 33}}}},
		"bytes above 127": one(api.Result{Path: "\xff\xfeé\x80", Data: "\x00\n\xff", Names: []string{"é", "\x80\x81", "\x00"}}),
		"noughts":         one(api.Result{Path: strings.Repeat("\x00", 20), Data: strings.Repeat("\x00", 9), Names: []string{strings.Repeat("\x00", 8)}}),
		"Names of no letters": {Num: 1, Results: []api.Result{
			{Names: []string{""}}, {Names: []string{"", "", ""}}, {Names: []string{"a", "", "b"}}, {}, {Names: []string{"", ""}, Data: "x"}}},
		"Names that are alike":    one(api.Result{Names: []string{"b", "a", "b", "b"}}),
		"a Path alone":            one(api.Result{Path: "no path"}),
		"Data alone":              one(api.Result{Data: "x"}),
		"an Err of no Op, At far": {Err: 99, At: 1 << 20, Results: results(2)},
	}
}

// large are replies at the limits: of long texts, of many Names.
func large() map[string]Reply {
	return map[string]Reply{
		"the longest Path":   one(api.Result{Path: fill(20000)}),
		"the longest Data":   one(api.Result{Data: fill(20000)}),
		"the longest Name":   one(api.Result{Names: []string{"a", fill(20000), "b"}}),
		"the most Names":     one(api.Result{Names: names(500)}),
		"the most Names, ''": one(api.Result{Names: make([]string, api.MaxNodes)}),
		"long texts everywhere": {Results: []api.Result{
			{Path: fill(20000), Data: fill(19999), Names: []string{fill(20000), fill(20000)}}, {Path: fill(19999), Data: fill(20000)}}},
	}
}

// tooMuch are replies of which one thing is one past its limit, or far past it.
func tooMuch() map[string]Reply {
	last := func(x api.Result) Reply { return Reply{Num: 1, Results: append(results(api.MaxOps-1), x)} }
	return map[string]Reply{
		"a Result too many":             {Num: 1, Results: results(api.MaxOps + 1)},
		"an empty Result too many":      {Results: make([]api.Result, 17)},
		"very many Results":             {Results: make([]api.Result, 1000)},
		"a Path too long":               one(api.Result{Path: fill(20001)}),
		"Data too long":                 one(api.Result{Data: fill(20001)}),
		"a Name too long":               one(api.Result{Names: []string{fill(20001)}}),
		"the last Name too long":        one(api.Result{Names: append(names(499), fill(20001))}),
		"a Name too many":               one(api.Result{Names: names(501)}),
		"a Name of no letters too many": one(api.Result{Names: make([]string, api.MaxNodes+1)}),
		"very many Names":               one(api.Result{Names: make([]string, 1<<16)}),
		"a very long Path":              one(api.Result{Path: fill(1 << 20)}),
		"a long text of bytes":          one(api.Result{Data: strings.Repeat("é", 10001)}),
		"the last's Path too long":      last(api.Result{Path: fill(20001)}),
		"the last's Data too long":      last(api.Result{Data: fill(20001)}),
		"the last's Name too long":      last(api.Result{Names: []string{"a", fill(20001)}}),
		"the last's Names too many":     last(api.Result{Names: names(501)}),
	}
}

// each goes through all replies that can be got.
func each(do func(name string, r Reply)) {
	for _, list := range []map[string]Reply{small(), large()} {
		for name, r := range list {
			do(name, r)
		}
	}
}

// fields tells field by field, by the types' words, whether two replies are alike.
func fields(a, b Reply) bool {
	if a.Num != b.Num || a.Zxid != b.Zxid || a.Err != b.Err || a.At != b.At || len(a.Results) != len(b.Results) {
		return false
	}
	for i, x := range a.Results {
		y := b.Results[i]
		if x.Err != y.Err || x.Path != y.Path || x.Data != y.Data || !slices.Equal(x.Names, y.Names) {
			return false
		}
		if x.Made != y.Made || x.Changed != y.Changed || x.Version != y.Version || x.Kids != y.Kids {
			return false
		}
		if x.Owner != y.Owner || x.Length != y.Length || x.Count != y.Count {
			return false
		}
	}
	return true
}

// copied makes a reply that shares no list with r.
func copied(r Reply) Reply {
	r.Results = slices.Clone(r.Results)
	for i := range r.Results {
		r.Results[i].Names = slices.Clone(r.Results[i].Names)
	}
	return r
}

// refused asks that Get answers EFORM, and nothing else.
func refused(t *testing.T, name string, b []byte) {
	t.Helper()
	if r, e := Get(b); e != api.EFORM || r.Num != 0 || r.Zxid != 0 || r.Err != 0 || r.At != 0 || len(r.Results) != 0 {
		t.Errorf("%s: %d with Num %d, Zxid %d, Err %d, At %d and %d Results is got", name, e, r.Num, r.Zxid, r.Err, r.At, len(r.Results))
	}
}

// P6.1: Fail, with every n, at and error that the document names, and such as it does not.
func TestFail(t *testing.T) {
	errs := []api.Errno{math.MinInt, -1, 16, 1 << 32, math.MaxInt}
	for e := api.OK; e <= api.EWAIT; e++ {
		errs = append(errs, e)
	}
	counts := []int{math.MinInt, -1 << 32, -1, 0, 1, 2, 3, 15, 16, 17, 1 << 31, 1<<32 + 1, math.MaxInt}
	for _, n := range counts {
		for _, at := range []int{math.MinInt, -1 << 32, -2, -1, 0, 1, n - 1, n, 14, 15, 16, 17, 1 << 32, 1<<32 + 1, math.MaxInt} {
			for _, e := range errs {
				for _, num := range []int64{math.MinInt64, -1, 0, 4, math.MaxInt64} {
					checkFail(t, num, e, at, n)
				}
			}
		}
	}
}

// checkFail holds one Fail against the promise's words.
func checkFail(t *testing.T, num int64, e api.Errno, at, n int) {
	t.Helper()
	r := Fail(num, e, at, n)
	if r.Num != num || r.Zxid != 0 || r.Err != e || r.At != at {
		t.Errorf("Fail(%d, %d, %d, %d): Num %d, Zxid %d, Err %d, At %d", num, e, at, n, r.Num, r.Zxid, r.Err, r.At)
	}
	want := n
	if n < 0 || n > 16 {
		want = 0
	}
	if len(r.Results) != want {
		t.Fatalf("Fail(%d, %d, %d, %d): %d Results", num, e, at, n, len(r.Results))
	}
	for i, x := range r.Results {
		told := api.ESKIP
		if i == at {
			told = e
		}
		if x.Err != told {
			t.Errorf("Fail(%d, %d, %d, %d): Err %d at %d", num, e, at, n, x.Err, i)
		}
		if x.Path != "" || x.Data != "" || len(x.Names) != 0 || x.Stat != (api.Stat{}) {
			t.Errorf("Fail(%d, %d, %d, %d): more than an Err at %d: %+v", num, e, at, n, i, x)
		}
	}
}

// P6.1: a Fail that is known word by word.
func TestFailPlain(t *testing.T) {
	r := Fail(4, api.EBUSY, 1, 3)
	want := Reply{Num: 4, Zxid: 0, Err: 12, At: 1, Results: []api.Result{{Err: 14}, {Err: 12}, {Err: 14}}}
	if !fields(r, want) {
		t.Errorf("%+v", r)
	}
}

// P6.1: Put's bytes, written out.
func TestPut(t *testing.T) {
	eight := func(last ...byte) []byte { return append(make([]byte, 8-len(last)), last...) }
	minus := func(last byte) []byte { return append(bytes.Repeat([]byte{255}, 7), last) }
	for name, c := range map[string]struct {
		r    Reply
		want [][]byte
	}{
		"nothing at all": {Reply{}, [][]byte{make([]byte, 40)}},
		"no Results": {Reply{Num: 258, Zxid: 3, Err: api.EBUSY, At: -1}, [][]byte{
			eight(1, 2), eight(3), eight(12), minus(255), eight()}},
		"a node": {Reply{Num: 1, Zxid: 2, Err: 3, At: 4, Results: []api.Result{{Err: 5, Path: "/ab", Data: "x\xff", Names: []string{"p", "", "qr"},
			Stat: api.Stat{Made: 6, Changed: 7, Version: 8, Kids: 9, Owner: 10, Length: 11, Count: 12}}}}, [][]byte{
			eight(1), eight(2), eight(3), eight(4), eight(1),
			eight(5), eight(3), []byte("/ab"), eight(2), {120, 255},
			eight(3), eight(1), []byte("p"), eight(), eight(2), []byte("qr"),
			eight(6), eight(7), eight(8), eight(9), eight(10), eight(11), eight(12)}},
		"two": {Reply{Num: -2, Zxid: math.MaxInt64, Results: []api.Result{{Err: api.ESKIP, Names: []string{"/"}, Stat: api.Stat{Owner: -3}}, {Path: "/b", Stat: api.Stat{Count: 256}}}}, [][]byte{
			minus(254), {127, 255, 255, 255, 255, 255, 255, 255}, eight(), eight(), eight(2),
			eight(14), eight(), eight(), eight(1), eight(1), []byte("/"), eight(), eight(), eight(), eight(), minus(253), eight(), eight(),
			eight(), eight(2), []byte("/b"), eight(), eight(), eight(), eight(), eight(), eight(), eight(), eight(), eight(1, 0)}},
	} {
		if got := Put(c.r); !bytes.Equal(got, slices.Concat(c.want...)) {
			t.Errorf("%s: %v", name, got)
		}
	}
	each(func(name string, r Reply) {
		if got := Put(r); !bytes.Equal(got, plain(r)) {
			t.Errorf("%s: %d bytes, not %d", name, len(got), len(plain(r)))
		}
	})
	if got := Put(Reply{Results: []api.Result{}}); !bytes.Equal(got, make([]byte, 40)) {
		t.Errorf("an empty list: %v", got)
	}
	if got := Put(one(api.Result{Names: []string{}})); !bytes.Equal(got, plain(one(api.Result{}))) {
		t.Errorf("an empty list of Names: %v", got)
	}
}

// P6.1: Put knows no limit: they are Get's.
func TestPutTooMuch(t *testing.T) {
	for name, r := range tooMuch() {
		if got := Put(r); !bytes.Equal(got, plain(r)) {
			t.Errorf("%s: %d bytes, not %d", name, len(got), len(plain(r)))
		}
	}
}

// P6.1: each number of the Stat, and each other one, stands in its own place.
func TestPlaces(t *testing.T) {
	whole := Reply{Results: []api.Result{{}}}
	set := []func(r *Reply){
		func(r *Reply) { r.Num = -7 }, func(r *Reply) { r.Zxid = -7 }, func(r *Reply) { r.Err = -7 }, func(r *Reply) { r.At = -7 }, nil,
		func(r *Reply) { r.Results[0].Err = -7 }, nil, nil, nil,
		func(r *Reply) { r.Results[0].Stat.Made = -7 }, func(r *Reply) { r.Results[0].Stat.Changed = -7 },
		func(r *Reply) { r.Results[0].Stat.Version = -7 }, func(r *Reply) { r.Results[0].Stat.Kids = -7 },
		func(r *Reply) { r.Results[0].Stat.Owner = -7 },
		func(r *Reply) { r.Results[0].Stat.Length = -7 }, func(r *Reply) { r.Results[0].Stat.Count = -7 },
	}
	for i, change := range set {
		if change == nil {
			continue
		}
		r, want := copied(whole), numbers(nil, 0, 0, 0, 0, 1, 0, 0, 0, 0, 0, 0, 0, 0, 0, 0, 0)
		change(&r)
		copy(want[8*i:], numbers(nil, -7))
		if got := Put(r); !bytes.Equal(got, want) {
			t.Errorf("number %d: %v is put", i, got)
		}
		if got, e := Get(want); e != api.OK || !fields(got, r) {
			t.Errorf("number %d: %d, %+v is got", i, e, got)
		}
	}
}

// P6.1: what was put is got.
func TestGet(t *testing.T) {
	each(func(name string, r Reply) {
		if got, e := Get(Put(r)); e != api.OK || !fields(got, r) {
			t.Errorf("%s: %d", name, e)
		}
		if got, e := Get(plain(r)); e != api.OK || !fields(got, r) {
			t.Errorf("%s, written here: %d", name, e)
		}
	})
	for b := range 256 {
		s := string([]byte{byte(b)})
		r := one(api.Result{Path: s, Data: s + s, Names: []string{s, "", s}})
		if got, e := Get(Put(r)); e != api.OK || !fields(got, r) {
			t.Errorf("texts of the byte %d: %d", b, e)
		}
	}
	for n := range 17 {
		r := Reply{Num: 1, Results: results(n)}
		if got, e := Get(Put(r)); e != api.OK || !fields(got, r) {
			t.Errorf("%d Results: %d", n, e)
		}
	}
}

// P6.1: the most of everything at once.
func TestGetMost(t *testing.T) {
	x := api.Result{Path: fill(20000), Data: fill(20000), Names: names(500)}
	x.Names[7], x.Names[499] = fill(20000), fill(20000)
	r := Reply{Num: 1, Results: slices.Repeat([]api.Result{x}, 16)}
	if got, e := Get(plain(r)); e != api.OK || !fields(got, r) {
		t.Errorf("it is not got: %d", e)
	}
	r = copied(r)
	r.Results[15].Names[499] += "x"
	refused(t, "one byte more", plain(r))
}

// P6.1: more than may be is got by nobody.
func TestGetTooMuch(t *testing.T) {
	for name, r := range tooMuch() {
		refused(t, name, plain(r))
		refused(t, name+", put", Put(r))
	}
}

// P6.1: bytes that are cut off at every place, or have more behind.
func TestGetCut(t *testing.T) {
	refused(t, "nil", nil)
	refused(t, "an empty list", []byte{})
	each(func(name string, r Reply) {
		b := plain(r)
		for n := range b {
			// All but the longest: of its texts some places stand for the others, for each cut is read from the first byte on.
			if len(b) < 30000 || n < 300 || n > len(b)-300 || n%997 == 0 {
				refused(t, name+", cut", b[:n])
			}
		}
		for _, more := range [][]byte{{0}, {255}, make([]byte, 8), make([]byte, 88), b, plain(one(api.Result{}))[40:]} {
			refused(t, name+", more behind", slices.Concat(b, more))
		}
		if _, e := Get(b[:len(b):len(b)]); e != api.OK {
			t.Errorf("%s, whole: %d", name, e)
		}
	})
}

// P6.1: numbers of items and of bytes that tell no reply.
func TestGetCounts(t *testing.T) {
	whole := one(api.Result{Path: "/a", Data: "xyz", Names: []string{"p", "q"}})
	// The places of the numbers of Results, of Path's bytes, of Data's, of Names, of the Names' bytes.
	places := map[int]int64{32: 1, 48: 2, 58: 3, 69: 2, 77: 1, 86: 1}
	wrong := []int64{math.MinInt64, -1 << 32, -1<<32 + 1, -1<<32 + 2, -1<<32 + 3, -2, -1, 0, 1, 2, 3, 4, 16, 17, 500, 501, 20000, 20001,
		1 << 31, 1 << 32, 1<<32 + 1, 1<<32 + 2, 1<<32 + 3, 1 << 62, math.MaxInt64 - 1, math.MaxInt64}
	for place, right := range places {
		b := plain(whole)
		if got := int64(binary.BigEndian.Uint64(b[place:])); got != right {
			t.Fatalf("at %d stands %d, not %d", place, got, right)
		}
		for _, v := range wrong {
			if v == right {
				continue
			}
			binary.BigEndian.PutUint64(b[place:], uint64(v))
			refused(t, strconv.FormatInt(v, 10)+" at "+strconv.Itoa(place), b)
			refused(t, strconv.FormatInt(v, 10)+" at "+strconv.Itoa(place)+", noughts behind", slices.Concat(b, make([]byte, 1<<16)))
		}
	}
}

// P6.1: a number of items that is one past its limit, though all of them are there.
func TestGetOneMore(t *testing.T) {
	for count := int64(15); count <= 18; count++ {
		b := slices.Concat(numbers(nil, 1, 2, 3, 4, count), make([]byte, 88*count))
		if r, e := Get(b); (e == api.OK) != (count <= 16) || e == api.OK && len(r.Results) != int(count) {
			t.Errorf("%d Results: %d", count, e)
		}
	}
	for count := int64(499); count <= 502; count++ {
		b := slices.Concat(numbers(nil, 1, 2, 3, 4, 1, 0, 0, 0, count), make([]byte, 8*count+56))
		if r, e := Get(b); (e == api.OK) != (count <= 500) || e == api.OK && len(r.Results[0].Names) != int(count) {
			t.Errorf("%d Names: %d", count, e)
		}
	}
}

// parted are the ways in which replies can part: such as Alike asks for, and the reply's own.
func parted() (inResults, inReply map[string]func(r *Reply)) {
	inResults = map[string]func(r *Reply){
		"no Results":          func(r *Reply) { r.Results = nil },
		"a Result fewer":      func(r *Reply) { r.Results = r.Results[:3] },
		"the first missing":   func(r *Reply) { r.Results = r.Results[1:] },
		"a Result more":       func(r *Reply) { r.Results = append(r.Results, api.Result{}) },
		"the order":           func(r *Reply) { r.Results[1], r.Results[2] = r.Results[2], r.Results[1] },
		"a Name":              func(r *Reply) { r.Results[3].Names[1] = "N1" },
		"the first Name":      func(r *Reply) { r.Results[3].Names[0] = "" },
		"the last Name":       func(r *Reply) { r.Results[3].Names[2] += "x" },
		"a Name fewer":        func(r *Reply) { r.Results[3].Names = r.Results[3].Names[:2] },
		"a Name more":         func(r *Reply) { r.Results[3].Names = append(r.Results[3].Names, "") },
		"no Names":            func(r *Reply) { r.Results[3].Names = nil },
		"a Name of no text":   func(r *Reply) { r.Results[0].Names = []string{""} },
		"the order of Names":  func(r *Reply) { slices.Reverse(r.Results[3].Names) },
		"two Names in one":    func(r *Reply) { r.Results[3].Names = []string{"n0n1", "", "n2"} },
		"Path against Data":   func(r *Reply) { r.Results[1].Path, r.Results[1].Data = r.Results[1].Data, r.Results[1].Path },
		"Made against Change": func(r *Reply) { s := &r.Results[1].Stat; s.Made, s.Changed = s.Changed, s.Made },
	}
	for i := range 4 {
		at := " at " + strconv.Itoa(i)
		inResults["Err"+at] = func(r *Reply) { r.Results[i].Err++ }
		inResults["Path"+at] = func(r *Reply) { r.Results[i].Path += "\x00" }
		inResults["no Path"+at] = func(r *Reply) { r.Results[i].Path = "" }
		inResults["Data"+at] = func(r *Reply) { r.Results[i].Data = "D" + r.Results[i].Data[1:] }
		inResults["no Data"+at] = func(r *Reply) { r.Results[i].Data = "" }
		inResults["Made"+at] = func(r *Reply) { r.Results[i].Made++ }
		inResults["Made, far"+at] = func(r *Reply) { r.Results[i].Made += 1 << 32 }
		inResults["Changed"+at] = func(r *Reply) { r.Results[i].Changed-- }
		inResults["Version"+at] = func(r *Reply) { r.Results[i].Version++ }
		inResults["Kids"+at] = func(r *Reply) { r.Results[i].Kids = -1 }
		inResults["Owner"+at] = func(r *Reply) { r.Results[i].Owner = 0 }
		inResults["Length"+at] = func(r *Reply) { r.Results[i].Length += 1 << 32 }
		inResults["Count"+at] = func(r *Reply) { r.Results[i].Count-- }
		inResults["the Stat"+at] = func(r *Reply) { r.Results[i].Stat = api.Stat{} }
	}
	inReply = map[string]func(r *Reply){
		"Num":          func(r *Reply) { r.Num++ },
		"Num, far":     func(r *Reply) { r.Num += 1 << 32 },
		"Zxid":         func(r *Reply) { r.Zxid-- },
		"Num and Zxid": func(r *Reply) { r.Num, r.Zxid = r.Zxid, r.Num },
		"Err":          func(r *Reply) { r.Err = api.OK },
		"Err, far":     func(r *Reply) { r.Err += 1 << 32 },
		"At":           func(r *Reply) { r.At = -1 },
	}
	return inResults, inReply
}

// whole makes a reply of four Results, new each time.
func whole() Reply { return Reply{Num: 3, Zxid: 4, Err: 5, At: 2, Results: results(4)} }

// P6.1: replies and results that part in one thing each.
func TestParted(t *testing.T) {
	inResults, inReply := parted()
	check := func(name string, change func(r *Reply), alike bool) {
		r := whole()
		change(&r)
		if Same(r, whole()) || Same(whole(), r) {
			t.Errorf("Same, they part in %s: true", name)
		}
		if Alike(r.Results, whole().Results) != alike || Alike(whole().Results, r.Results) != alike {
			t.Errorf("Alike, they part in %s: %v", name, !alike)
		}
		if !Same(r, copied(r)) || !Alike(r.Results, copied(r).Results) {
			t.Errorf("another %s, and its copy: false", name)
		}
	}
	for name, change := range inResults {
		check(name, change, false)
	}
	for name, change := range inReply {
		check(name, change, true)
	}
}

// P6.1: replies and results that are alike.
func TestSame(t *testing.T) {
	each(func(name string, r Reply) {
		if !Same(r, r) || !Same(r, copied(r)) || !Alike(r.Results, copied(r).Results) {
			t.Errorf("%s, and its copy: false", name)
		}
	})
	for name, r := range tooMuch() {
		if !Same(r, copied(r)) || !Alike(r.Results, copied(r).Results) {
			t.Errorf("%s, and its copy: false", name)
		}
	}
	all := small()
	for a, x := range all {
		for b, y := range all {
			if Same(x, y) != (a == b) || Same(x, y) != fields(x, y) {
				t.Errorf("%s, and %s: %v", a, b, Same(x, y))
			}
		}
	}
}

// R4: nil and an empty list are one, spare room is none.
func TestSameNil(t *testing.T) {
	empty, roomy := []api.Result{}, results(2)[:0]
	for _, x := range [][]api.Result{nil, empty, roomy} {
		for _, y := range [][]api.Result{nil, empty, roomy} {
			if !Alike(x, y) || !Same(Reply{Num: 1, Results: x}, Reply{Num: 1, Results: y}) {
				t.Errorf("nil and empty lists: false")
			}
		}
		if Alike(x, make([]api.Result, 1)) || Alike(make([]api.Result, 1), x) {
			t.Errorf("an empty list and a zero Result: true")
		}
	}
	for _, x := range [][]string{nil, {}, names(2)[:0]} {
		if a, b := one(api.Result{Names: x}), one(api.Result{}); !Same(a, b) || !Same(b, a) || !Alike(a.Results, b.Results) {
			t.Errorf("nil and empty Names: false")
		}
	}
	r := whole()
	r.Results = append(r.Results, results(5)...)[:4]
	r.Results[3].Names = append(r.Results[3].Names, "spare")[:3]
	if !Same(r, whole()) || !Alike(whole().Results, r.Results) {
		t.Errorf("spare room: false")
	}
}

// R4: no call changes a list that it is handed, nor its spare room, nor hangs on it.
func TestListsStay(t *testing.T) {
	room := Reply{Num: 1, Results: results(6)}
	for i := range room.Results {
		room.Results[i].Names = names(5)
	}
	before := copied(room)
	r := Reply{Num: 1, Results: slices.Clone(room.Results)}
	for i := range r.Results {
		r.Results[i].Names = room.Results[i].Names[:3]
	}
	outer := slices.Clone(r.Results)
	r.Results = outer[:4]
	want := plain(r)
	b := Put(r)
	Same(r, whole())
	Same(whole(), r)
	Alike(r.Results, outer)
	for i, x := range outer {
		if !slices.Equal(room.Results[i].Names, before.Results[i].Names) || len(x.Names) != 3 || x.Stat != before.Results[i].Stat || x.Err != before.Results[i].Err || x.Path != before.Results[i].Path {
			t.Errorf("Result %d was changed", i)
		}
	}
	for i := range room.Results {
		clear(room.Results[i].Names)
	}
	clear(outer)
	if !bytes.Equal(b, want) {
		t.Errorf("Put's bytes hang on the lists")
	}
}

// R4: what Put and Fail answer is new each time.
func TestNewMemory(t *testing.T) {
	each(func(name string, r Reply) {
		first, second := Put(r), Put(r)
		clear(first[:cap(first)])
		if !bytes.Equal(second, plain(r)) || !bytes.Equal(Put(r), plain(r)) {
			t.Errorf("%s: two answers share memory", name)
		}
	})
	for n := range 17 {
		first, second := Fail(1, api.EBUSY, 0, n), Fail(1, api.EBUSY, 0, n)
		before := copied(second)
		clear(first.Results[:cap(first.Results)])
		if !fields(second, before) {
			t.Errorf("%d Results: two failures share memory", n)
		}
		for _, x := range second.Results[n:cap(second.Results)] {
			if !Alike([]api.Result{x}, make([]api.Result, 1)) {
				t.Errorf("%d Results: %+v stands behind them", n, x)
			}
		}
	}
}

// R4: Get changes no byte, spare room included; what it answers hangs on nothing.
func TestGetMemory(t *testing.T) {
	each(func(name string, r Reply) {
		room := slices.Concat(plain(r), bytes.Repeat([]byte{7}, 100))
		before := slices.Clone(room)
		b := room[:len(room)-100]
		first, e1 := Get(b)
		second, e2 := Get(b)
		refused(t, name, b[:len(b)-1])
		refused(t, name, room)
		if !bytes.Equal(room, before) {
			t.Errorf("%s: what was handed in was changed", name)
		}
		clear(room)
		for _, x := range first.Results {
			clear(x.Names[:cap(x.Names)])
		}
		clear(first.Results[:cap(first.Results)])
		if e1 != api.OK || e2 != api.OK || !fields(second, r) {
			t.Errorf("%s: %d, %d, or an answer hangs on what was handed in, or on another answer", name, e1, e2)
		}
	})
}

// R4: no two lists of what is got share memory, and their spare room is empty.
func TestGetLists(t *testing.T) {
	want := Reply{Num: 1, Results: results(11)}
	for i := range want.Results {
		r, e := Get(plain(want))
		if e != api.OK {
			t.Fatalf("it is not got: %d", e)
		}
		list := r.Results[i].Names
		for _, s := range list[len(list):cap(list)] {
			if s != "" {
				t.Errorf("%q stands behind the Names at %d", s, i)
			}
		}
		for _, x := range r.Results[len(r.Results):cap(r.Results)] {
			if !Alike([]api.Result{x}, make([]api.Result, 1)) {
				t.Errorf("%+v stands behind the Results", x)
			}
		}
		clear(list[:cap(list)])
		_ = append(list, "another")
		for k, x := range r.Results {
			if k != i && !slices.Equal(x.Names, want.Results[k].Names) {
				t.Errorf("the Names at %d and at %d share memory", i, k)
			}
		}
	}
}

// R1, P6.1: whatever the bytes, what is got is what was put, and nothing else is.
func FuzzGet(f *testing.F) {
	f.Add([]byte{})
	for _, r := range small() {
		f.Add(plain(r))
	}
	for _, r := range tooMuch() {
		if b := plain(r); len(b) < 30000 {
			f.Add(b)
		}
	}
	f.Fuzz(func(t *testing.T, b []byte) {
		r, e := Get(b)
		if e != api.OK {
			refused(t, "some bytes", b)
			return
		}
		if !bytes.Equal(plain(r), b) || !bytes.Equal(Put(r), b) || len(r.Results) > 16 {
			t.Fatalf("%+v is got of %x", r, b)
		}
		for _, x := range r.Results {
			if len(x.Path) > 20000 || len(x.Data) > 20000 || len(x.Names) > 500 {
				t.Fatalf("%+v is got", x)
			}
		}
	})
}

// R1, P6.1: whatever the numbers and texts, what was put is got, where it is not too much.
func FuzzPut(f *testing.F) {
	f.Add(int64(1), int64(2), 3, 4, "/a", "x", "p", int64(5), 6, 2, 2)
	f.Add(int64(-1), int64(math.MinInt64), math.MaxInt, -1, "", fill(20001), "\xff", int64(0), -6, 17, 501)
	f.Fuzz(func(t *testing.T, num, zxid int64, e, at int, p, data, name string, long int64, short, n, k int) {
		n, k = min(max(n, 0), 20), min(max(k, 0), 510)
		x := api.Result{Err: api.Errno(short), Path: p, Data: data, Names: slices.Repeat([]string{name}, k),
			Stat: api.Stat{Made: long, Changed: ^long, Version: short, Kids: -short, Owner: num, Length: at, Count: e}}
		r := Reply{Num: num, Zxid: zxid, Err: api.Errno(e), At: at, Results: slices.Repeat([]api.Result{x}, n)}
		b := Put(r)
		if !bytes.Equal(b, plain(r)) {
			t.Fatalf("%+v: %x is put", r, b)
		}
		may := n == 0 || n <= 16 && k <= 500 && len(p) <= 20000 && len(data) <= 20000 && (k == 0 || len(name) <= 20000)
		got, err := Get(b)
		if (err == api.OK) != may || may && (!fields(got, r) || !Same(got, r)) {
			t.Fatalf("%+v: %d, %+v is got", r, err, got)
		}
	})
}
