package op

import (
	"bytes"
	"encoding/binary"
	"math"
	"slices"
	"strings"
	"testing"

	"aviary/api"
)

// has tells, by the promise's words, what a Kind has.
var has = map[int]struct{ data, version, flags bool }{
	api.Create:   {data: true, flags: true},
	api.Delete:   {version: true},
	api.Set:      {data: true, version: true},
	api.Check:    {version: true},
	api.Get:      {},
	api.Exists:   {},
	api.Children: {},
}

// fill makes a text of n bytes.
func fill(n int) string { return strings.Repeat("x", n) }

// wide makes a path of 164 bytes and one more name.
func wide(last string) string { return strings.Repeat("/"+fill(40), 4) + "/" + last }

// noPaths are texts that are no paths.
func noPaths() []string {
	return []string{
		"", "/", "a", "a/b", "/a/", "//", "//a", "/a//b", "/.", "/..", "/a/.", "/a/..", "/a b", "/a\n", "/a\x00", "/a\x7f", "/é", "/a\x80",
		"/" + fill(41), "/a/" + fill(41), strings.Repeat("/d", 9), wide(fill(36)), "/" + strings.Repeat("a", 1<<20),
	}
}

// create makes the Create of a path.
func create(p string) api.Op { return api.Op{Kind: api.Create, Path: p} }

// several makes n Creates.
func several(n int) []api.Op {
	var ops []api.Op
	for i := range n {
		ops = append(ops, create("/a/"+string(rune('a'+i))))
	}
	return ops
}

// asked makes a request of these Ops.
func asked(ops ...api.Op) Request { return Request{Sess: 1, Num: 1, Ops: ops} }

// numbers writes numbers by the library's own rule.
func numbers(b []byte, list ...int64) []byte {
	for _, v := range list {
		b = binary.BigEndian.AppendUint64(b, uint64(v))
	}
	return b
}

// text writes a text by the library's own rule.
func text(b []byte, s string) []byte { return append(numbers(b, int64(len(s))), s...) }

// plain writes a request by the promise's words, whether it may be or not.
func plain(r Request) []byte {
	b := numbers(nil, r.Sess, r.Num, int64(len(r.Ops)))
	for _, o := range r.Ops {
		b = text(text(numbers(b, int64(o.Kind)), o.Path), o.Data)
		b = numbers(b, int64(o.Version), int64(o.Flags))
	}
	return b
}

// mayBe are requests that may be.
func mayBe() map[string]Request {
	return map[string]Request{
		"a Create":          asked(create("/a")),
		"a Create, bare":    {Sess: 5, Num: 6, Ops: []api.Op{{Kind: api.Create, Path: "/a/b", Flags: 3}}},
		"a Delete":          asked(api.Op{Kind: api.Delete, Path: "/a", Version: -1}),
		"a Set":             asked(api.Op{Kind: api.Set, Path: "/a", Data: "x", Version: math.MaxInt}),
		"a Check":           asked(api.Op{Kind: api.Check, Path: "/a/b", Version: 1 << 32}),
		"a Get":             asked(api.Op{Kind: api.Get, Path: "/!"}),
		"an Exists":         asked(api.Op{Kind: api.Exists, Path: "/~"}),
		"a Children":        asked(api.Op{Kind: api.Children, Path: "/a"}),
		"great numbers":     {Sess: math.MaxInt64, Num: math.MaxInt64 - 1, Ops: several(2)},
		"bytes above 127":   asked(api.Op{Kind: api.Set, Path: "/a", Data: "\xff\xfeé\x80\x00\n"}),
		"noughts":           asked(api.Op{Kind: api.Create, Path: "/a", Data: strings.Repeat("\x00", 20)}),
		"the most data":     asked(api.Op{Kind: api.Create, Path: wide(fill(35)), Data: fill(api.MaxData)}),
		"the most of all":   {Sess: 1, Num: 2, Ops: slices.Repeat([]api.Op{{Kind: api.Set, Path: wide(fill(35)), Data: fill(api.MaxData), Version: 7}}, api.MaxOps)},
		"two alike":         asked(create("/a"), create("/a")),
		"one of each write": asked(create("/a"), api.Op{Kind: api.Check, Path: "/a"}, api.Op{Kind: api.Set, Path: "/a", Data: "/a", Version: 1}, api.Op{Kind: api.Delete, Path: "/a", Version: -1}),
	}
}

// mayNotBe are requests that may not be, with the error of each.
func mayNotBe() map[string]struct {
	r Request
	e api.Errno
} {
	get, long := api.Op{Kind: api.Get, Path: "/a"}, api.Op{Kind: api.Set, Path: "/a", Data: fill(api.MaxData + 1)}
	bad := api.Op{Kind: api.Create, Path: "/a/"}
	return map[string]struct {
		r Request
		e api.Errno
	}{
		"nothing at all":                {Request{}, api.EARG},
		"Sess 0":                        {Request{0, 1, several(1)}, api.EARG},
		"Sess -1":                       {Request{-1, 1, several(1)}, api.EARG},
		"the least Sess":                {Request{math.MinInt64, 1, several(1)}, api.EARG},
		"Num 0":                         {Request{1, 0, several(1)}, api.EARG},
		"Num -1":                        {Request{1, -1, several(1)}, api.EARG},
		"the least Num":                 {Request{1, math.MinInt64, several(1)}, api.EARG},
		"no Op":                         {Request{1, 1, nil}, api.EARG},
		"an empty list":                 {Request{1, 1, []api.Op{}}, api.EARG},
		"an empty list with room":       {Request{1, 1, several(3)[:0]}, api.EARG},
		"one too many":                  {asked(several(api.MaxOps + 1)...), api.ELIMIT},
		"very many":                     {asked(make([]api.Op, 1<<16)...), api.ELIMIT},
		"Sess 0, one too many":          {Request{0, 1, several(api.MaxOps + 1)}, api.EARG},
		"Num 0, one too many":           {Request{1, 0, several(api.MaxOps + 1)}, api.EARG},
		"Sess 0, an Op's ELIMIT":        {Request{0, 1, []api.Op{long}}, api.EARG},
		"one too many, the first bad":   {asked(append([]api.Op{bad}, several(api.MaxOps)...)...), api.ELIMIT},
		"one too many, a read":          {asked(append(several(api.MaxOps), get)...), api.ELIMIT},
		"one bad":                       {asked(bad), api.EARG},
		"one too long":                  {asked(long), api.ELIMIT},
		"the zero Op":                   {asked(api.Op{}), api.EARG},
		"the last bad":                  {asked(append(several(api.MaxOps-1), bad)...), api.EARG},
		"the last too long":             {asked(append(several(api.MaxOps-1), long)...), api.ELIMIT},
		"bad ahead of too long":         {asked(create("/a"), bad, long), api.EARG},
		"too long ahead of bad":         {asked(create("/a"), long, bad), api.ELIMIT},
		"a read ahead of too long":      {asked(get, long), api.ELIMIT},
		"too long ahead of a read":      {asked(long, get), api.ELIMIT},
		"a read that is too long":       {asked(api.Op{Kind: api.Get, Path: "/a", Data: fill(api.MaxData + 1)}), api.ELIMIT},
		"two reads":                     {asked(get, get), api.EARG},
		"a Get first":                   {asked(get, create("/b")), api.EARG},
		"an Exists last":                {asked(create("/b"), api.Op{Kind: api.Exists, Path: "/a"}), api.EARG},
		"a Children between":            {asked(create("/b"), api.Op{Kind: api.Children, Path: "/a"}, create("/c")), api.EARG},
		"a read behind MaxOps less one": {asked(append(several(api.MaxOps-1), get)...), api.EARG},
		"the document's example":        {asked(api.Op{Kind: api.Create, Path: "/a", Flags: 2}), api.EARG},
	}
}

// P5.1: Good of ordinary Ops, of the edges and of wrong ones.
func TestGood(t *testing.T) {
	for _, c := range []struct {
		name string
		o    api.Op
		want api.Errno
	}{
		{"the document's example", api.Op{Kind: api.Create, Path: "/a", Flags: 2}, api.EARG},
		{"a Create", api.Op{Kind: api.Create, Path: "/a", Data: "x"}, api.OK},
		{"a Create, ephemeral", api.Op{Kind: api.Create, Path: "/a", Data: "x", Flags: 1}, api.OK},
		{"a Create, sequential", api.Op{Kind: api.Create, Path: "/a/b", Flags: 2}, api.OK},
		{"a Create, both", api.Op{Kind: api.Create, Path: "/a/b", Data: "x", Flags: 3}, api.OK},
		{"one name alone, both", api.Op{Kind: api.Create, Path: "/a", Flags: 3}, api.EARG},
		{"one name alone, none", api.Op{Kind: api.Create, Path: "/a"}, api.OK},
		{"a name with room for a number", api.Op{Kind: api.Create, Path: "/a/" + fill(30), Flags: 2}, api.OK},
		{"a name without room for a number", api.Op{Kind: api.Create, Path: "/a/" + fill(31), Flags: 2}, api.EARG},
		{"a name without room, both", api.Op{Kind: api.Create, Path: "/a/" + fill(31), Flags: 3}, api.EARG},
		{"a name without room, ephemeral", api.Op{Kind: api.Create, Path: "/a/" + fill(31), Flags: 1}, api.OK},
		{"a name without room, none", api.Op{Kind: api.Create, Path: "/a/" + fill(40)}, api.OK},
		{"a path with room for a number", api.Op{Kind: api.Create, Path: wide(fill(25)), Flags: 2}, api.OK},
		{"a path without room for a number", api.Op{Kind: api.Create, Path: wide(fill(26)), Flags: 2}, api.EARG},
		{"a path without room, none", api.Op{Kind: api.Create, Path: wide(fill(35))}, api.OK},
		{"the deepest, sequential", api.Op{Kind: api.Create, Path: strings.Repeat("/d", 8), Flags: 2}, api.OK},
		{"a long first name, sequential", api.Op{Kind: api.Create, Path: "/" + fill(40) + "/a", Flags: 2}, api.OK},
		{"a Create's version any", api.Op{Kind: api.Create, Path: "/a", Version: -1}, api.EARG},
		{"a Delete", api.Op{Kind: api.Delete, Path: "/a", Version: -1}, api.OK},
		{"a Set of nothing", api.Op{Kind: api.Set, Path: "/a"}, api.OK},
		{"a Set", api.Op{Kind: api.Set, Path: "/a", Data: "x", Version: math.MaxInt}, api.OK},
		{"a Check", api.Op{Kind: api.Check, Path: "/a", Version: 1}, api.OK},
		{"a Get", api.Op{Kind: api.Get, Path: "/a"}, api.OK},
		{"an Exists", api.Op{Kind: api.Exists, Path: "/a"}, api.OK},
		{"a Children", api.Op{Kind: api.Children, Path: "/a"}, api.OK},
		{"nothing", api.Op{}, api.EARG},
		{"the most data", api.Op{Kind: api.Set, Path: "/a", Data: fill(1000)}, api.OK},
		{"one byte more", api.Op{Kind: api.Set, Path: "/a", Data: fill(1001)}, api.ELIMIT},
		{"bytes are counted, not runes", api.Op{Kind: api.Set, Path: "/a", Data: strings.Repeat("é", 501)}, api.ELIMIT},
	} {
		if e := Good(c.o); e != c.want {
			t.Errorf("%s: %d, not %d", c.name, e, c.want)
		}
	}
}

// P5.1: no other Kinds, Versions or Flags, and no text that is no path, of any Kind.
func TestGoodRanges(t *testing.T) {
	for _, kind := range []int{math.MinInt, -1, 0, 8, 9, 256 + 1, 1 << 32, 1<<32 + 1, math.MaxInt} {
		if e := Good(api.Op{Kind: kind, Path: "/a"}); e != api.EARG {
			t.Errorf("Kind %d: %d", kind, e)
		}
	}
	for kind := range has {
		for _, p := range noPaths() {
			if e := Good(api.Op{Kind: kind, Path: p}); e != api.EARG {
				t.Errorf("Kind %d of %.50q: %d", kind, p, e)
			}
		}
		for _, version := range []int{-2, -3, math.MinInt, -1 << 32, -1<<32 + 1} {
			if e := Good(api.Op{Kind: kind, Path: "/a", Version: version}); e != api.EARG {
				t.Errorf("Kind %d, Version %d: %d", kind, version, e)
			}
		}
		for _, flags := range []int{-1, 4, 5, 8, math.MinInt, math.MaxInt, 1 << 32, 1<<32 + 1, -1 << 32} {
			if e := Good(api.Op{Kind: kind, Path: "/a/b", Flags: flags}); e != api.EARG {
				t.Errorf("Kind %d, Flags %d: %d", kind, flags, e)
			}
		}
	}
}

// P5.1: what each Kind has and has not, each alone.
func TestGoodOfKinds(t *testing.T) {
	if len(has) != 7 {
		t.Fatal("there are seven Kinds")
	}
	want := func(fits bool) api.Errno {
		if fits {
			return api.OK
		}
		return api.EARG
	}
	for kind, own := range has {
		if e := Good(api.Op{Kind: kind, Path: "/a/b"}); e != api.OK {
			t.Errorf("Kind %d, bare: %d", kind, e)
		}
		for _, data := range []string{"x", "\x00", fill(api.MaxData)} {
			if e := Good(api.Op{Kind: kind, Path: "/a/b", Data: data}); e != want(own.data) {
				t.Errorf("Kind %d with Data: %d", kind, e)
			}
		}
		for _, version := range []int{-1, 1, 2, math.MaxInt} {
			if e := Good(api.Op{Kind: kind, Path: "/a/b", Version: version}); e != want(own.version) {
				t.Errorf("Kind %d with Version %d: %d", kind, version, e)
			}
		}
		for _, flags := range []int{1, 2, 3} {
			if e := Good(api.Op{Kind: kind, Path: "/a/b", Flags: flags}); e != want(own.flags) {
				t.Errorf("Kind %d with Flags %d: %d", kind, flags, e)
			}
		}
	}
}

// first tells by the promise's words, step by step, which error comes first.
func first(o api.Op, isPath, oneName, numbered bool) api.Errno {
	own, known := has[o.Kind]
	if !known || !isPath || o.Version < -1 || o.Flags < 0 || o.Flags > 3 {
		return api.EARG
	}
	if len(o.Data) > 1000 {
		return api.ELIMIT
	}
	if o.Data != "" && !own.data || o.Version != 0 && !own.version || o.Flags != 0 && !own.flags {
		return api.EARG
	}
	if o.Flags >= 2 && (oneName || !numbered) {
		return api.EARG
	}
	return api.OK
}

// P5.1: all of it at once: which error comes first.
func TestGoodOrder(t *testing.T) {
	paths := []struct {
		p                         string
		isPath, oneName, numbered bool
	}{
		{"/a", true, true, true}, {"/" + fill(31), true, true, false}, {"/a/b", true, false, true}, {"/a/" + fill(31), true, false, false},
		{wide(fill(25)), true, false, true}, {wide(fill(26)), true, false, false}, {"/a/", false, false, false}, {"", false, false, false},
	}
	for kind := -1; kind <= 9; kind++ {
		for _, p := range paths {
			for _, data := range []string{"", "x", fill(1000), fill(1001)} {
				for version := -2; version <= 1; version++ {
					for flags := -1; flags <= 4; flags++ {
						o := api.Op{Kind: kind, Path: p.p, Data: data, Version: version, Flags: flags}
						if e, want := Good(o), first(o, p.isPath, p.oneName, p.numbered); e != want {
							t.Errorf("Kind %d, %q, %d bytes, Version %d, Flags %d: %d, not %d", kind, p.p, len(data), version, flags, e, want)
						}
					}
				}
			}
		}
	}
}

// P5.1: requests that may be.
func TestMay(t *testing.T) {
	for name, r := range mayBe() {
		if e := May(r); e != api.OK {
			t.Errorf("%s: %d", name, e)
		}
	}
	for n := 1; n <= 16; n++ {
		if e := May(asked(several(n)...)); e != api.OK {
			t.Errorf("%d Ops: %d", n, e)
		}
	}
	for kind := range has {
		o := api.Op{Kind: kind, Path: "/a"}
		if e := May(asked(o)); e != api.OK {
			t.Errorf("Kind %d alone: %d", kind, e)
		}
		want := api.OK
		if kind >= api.Get {
			want = api.EARG
		}
		for _, ops := range [][]api.Op{{o, o}, {o, create("/b")}, {create("/b"), o}, {create("/b"), o, create("/c")}} {
			if e := May(asked(ops...)); e != want {
				t.Errorf("Kind %d among others: %d", kind, e)
			}
		}
	}
}

// P5.1: requests that may not be, and which error comes first.
func TestMayNot(t *testing.T) {
	for name, c := range mayNotBe() {
		if e := May(c.r); e != c.e {
			t.Errorf("%s: %d, not %d", name, e, c.e)
		}
	}
	if e := May(asked(several(17)...)); e != api.ELIMIT {
		t.Errorf("17 Ops: %d", e)
	}
}

// P5.1: Writes asks for the Kinds alone, wherever they stand.
func TestWrites(t *testing.T) {
	if Writes(Request{}) || Writes(asked()) || Writes(Request{Ops: several(1)[:0]}) {
		t.Errorf("of no Op: true")
	}
	quiet := api.Op{Kind: api.Check, Path: "/a"}
	for _, kind := range []int{math.MinInt, -1, 0, 1, 2, 3, 4, 5, 6, 7, 8, 1<<32 + 1, math.MaxInt} {
		o, want := api.Op{Kind: kind, Path: "/a"}, kind >= 1 && kind <= 3
		for _, ops := range [][]api.Op{{o}, {o, quiet}, {quiet, o}, {quiet, o, quiet}, {o, o}} {
			if got := Writes(asked(ops...)); got != want {
				t.Errorf("Kind %d among %d: %v", kind, len(ops), got)
			}
		}
		if got := Writes(asked(o, create("/b"))); !got {
			t.Errorf("Kind %d ahead of a Create: false", kind)
		}
	}
	if !Writes(Request{Ops: []api.Op{{Kind: api.Delete}}}) {
		t.Errorf("of a request that may not be: false")
	}
}

// P5.1: Put's bytes.
func TestPut(t *testing.T) {
	eight := func(last ...byte) []byte { return append(make([]byte, 8-len(last)), last...) }
	for name, c := range map[string]struct {
		r    Request
		want [][]byte
	}{
		"a Create": {Request{258, 7, []api.Op{{Kind: api.Create, Path: "/a/b", Data: "x\xff", Flags: 3}}}, [][]byte{
			eight(1, 2), eight(7), eight(1), eight(1), eight(4), []byte("/a/b"), eight(2), {120, 255}, eight(), eight(3)}},
		"a Get": {Request{math.MaxInt64, 1, []api.Op{{Kind: api.Get, Path: "/q"}}}, [][]byte{
			{127, 255, 255, 255, 255, 255, 255, 255}, eight(1), eight(1), eight(5), eight(2), []byte("/q"), eight(), eight(), eight()}},
		"a multi": {Request{1, 2, []api.Op{{Kind: api.Delete, Path: "/a", Version: -1}, {Kind: api.Set, Path: "/b", Data: "d", Version: 256}}}, [][]byte{
			eight(1), eight(2), eight(2),
			eight(2), eight(2), []byte("/a"), eight(), bytes.Repeat([]byte{255}, 8), eight(),
			eight(3), eight(2), []byte("/b"), eight(1), []byte("d"), eight(1, 0), eight()}},
	} {
		if got := Put(c.r); !bytes.Equal(got, slices.Concat(c.want...)) {
			t.Errorf("%s: %v", name, got)
		}
	}
	for name, r := range mayBe() {
		if got := Put(r); !bytes.Equal(got, plain(r)) {
			t.Errorf("%s: %d bytes, not %d", name, len(got), len(plain(r)))
		}
	}
}

// P5.1: of a request that may not be nothing is put, and its bytes are got by nobody.
func TestMayNotPut(t *testing.T) {
	for name, c := range mayNotBe() {
		if got := Put(c.r); len(got) != 0 {
			t.Errorf("%s: %d bytes are put", name, len(got))
		}
		refused(t, name, plain(c.r))
	}
}

// refused asks that Get answers EFORM, and nothing else.
func refused(t *testing.T, name string, b []byte) {
	t.Helper()
	if r, e := Get(b); e != api.EFORM || r.Sess != 0 || r.Num != 0 || len(r.Ops) != 0 {
		t.Errorf("%s: %d with Sess %d, Num %d and %d Ops is got", name, e, r.Sess, r.Num, len(r.Ops))
	}
}

// alike tells field by field whether two are.
func alike(a, b Request) bool {
	if a.Sess != b.Sess || a.Num != b.Num || len(a.Ops) != len(b.Ops) {
		return false
	}
	for i, x := range a.Ops {
		y := b.Ops[i]
		if x.Kind != y.Kind || x.Path != y.Path || x.Data != y.Data || x.Version != y.Version || x.Flags != y.Flags {
			return false
		}
	}
	return true
}

// P5.1: what was put is got.
func TestGet(t *testing.T) {
	for name, r := range mayBe() {
		if got, e := Get(Put(r)); e != api.OK || !alike(got, r) {
			t.Errorf("%s: %d", name, e)
		}
		if got, e := Get(plain(r)); e != api.OK || !alike(got, r) {
			t.Errorf("%s, written here: %d", name, e)
		}
	}
	for b := range 256 {
		r := asked(api.Op{Kind: api.Set, Path: "/a", Data: string([]byte{byte(b)})})
		if got, e := Get(Put(r)); e != api.OK || !alike(got, r) {
			t.Errorf("Data of the byte %d: %d", b, e)
		}
	}
}

// P5.1: bytes that are cut off at every place, or have more behind.
func TestGetCut(t *testing.T) {
	refused(t, "nil", nil)
	refused(t, "an empty list", []byte{})
	for name, r := range mayBe() {
		b := plain(r)
		for n := range b {
			refused(t, name+", cut", b[:n])
		}
		refused(t, name+", without the first", b[1:])
		for _, more := range [][]byte{{0}, {255}, make([]byte, 8), b, plain(asked(create("/z")))[24:]} {
			refused(t, name+", more behind", slices.Concat(b, more))
		}
		if _, e := Get(b[:len(b):len(b)]); e != api.OK {
			t.Errorf("%s, whole: %d", name, e)
		}
	}
}

// P5.1: numbers that tell no request.
func TestGetNumbers(t *testing.T) {
	ops := func(count int64, ops ...api.Op) []byte {
		b := plain(asked(ops...))
		binary.BigEndian.PutUint64(b[16:], uint64(count))
		return b
	}
	for _, count := range []int64{math.MinInt64, -1, 0, 2, 16, 17, 1 << 32, 1<<32 + 1, math.MaxInt64} {
		refused(t, "a count that is not that of one", ops(count, create("/a")))
	}
	refused(t, "a count below", ops(1, create("/a"), create("/b")))
	refused(t, "a count above", ops(3, create("/a"), create("/b")))
	if _, e := Get(ops(2, create("/a"), create("/b"))); e != api.OK {
		t.Errorf("the right count: %d", e)
	}
	wrong := []int64{math.MinInt64, -1 << 32, -2, -1, 1001, 1 << 31, 1 << 32, 1<<32 + 1, 1<<32 + 2, math.MaxInt64}
	whole := asked(api.Op{Kind: api.Create, Path: "/a", Data: "xy"})
	// The places of Kind, of Path's and Data's lengths, and of Flags.
	for _, place := range []int{24, 32, 42, 60} {
		for _, v := range wrong {
			b := plain(whole)
			binary.BigEndian.PutUint64(b[place:], uint64(v))
			refused(t, "a number at "+string(rune('0'+place/10))+string(rune('0'+place%10)), b)
		}
	}
	for _, v := range []int64{math.MinInt64, -1 << 32, -1<<32 + 1, -3, -2} {
		b := plain(asked(api.Op{Kind: api.Delete, Path: "/a"}))
		binary.BigEndian.PutUint64(b[len(b)-16:], uint64(v))
		refused(t, "a Version below -1", b)
	}
	for _, v := range []int64{-1, 0, 1, 1 << 31, 1 << 32, math.MaxInt64} {
		b := plain(asked(api.Op{Kind: api.Delete, Path: "/a"}))
		binary.BigEndian.PutUint64(b[len(b)-16:], uint64(v))
		if r, e := Get(b); e != api.OK || int64(r.Ops[0].Version) != v {
			t.Errorf("a Version of %d: %d", v, e)
		}
	}
}

// P5.1: requests that are alike, and such as part in one thing each.
func TestSame(t *testing.T) {
	whole := func() Request {
		return Request{3, 4, []api.Op{
			{Kind: api.Create, Path: "/a", Data: "x", Flags: 1}, {Kind: api.Delete, Path: "/b", Version: -1}, {Kind: api.Check, Path: "/c", Version: 2}}}
	}
	if !Same(whole(), whole()) || !Same(Request{}, Request{}) {
		t.Errorf("two that are alike: false")
	}
	if !Same(Request{1, 2, nil}, Request{1, 2, []api.Op{}}) || !Same(Request{1, 2, several(2)[:0]}, Request{1, 2, nil}) {
		t.Errorf("nil and an empty list: false")
	}
	if roomy := whole(); !Same(whole(), Request{3, 4, append(roomy.Ops, several(5)...)[:3]}) {
		t.Errorf("spare room: false")
	}
	for name, change := range map[string]func(r *Request){
		"Sess":              func(r *Request) { r.Sess++ },
		"Sess, far":         func(r *Request) { r.Sess += 1 << 32 },
		"Num":               func(r *Request) { r.Num-- },
		"Sess and Num":      func(r *Request) { r.Sess, r.Num = r.Num, r.Sess },
		"no Ops":            func(r *Request) { r.Ops = nil },
		"an Op fewer":       func(r *Request) { r.Ops = r.Ops[:2] },
		"an Op more":        func(r *Request) { r.Ops = append(r.Ops, api.Op{}) },
		"their order":       func(r *Request) { r.Ops[0], r.Ops[1] = r.Ops[1], r.Ops[0] },
		"a Kind":            func(r *Request) { r.Ops[2].Kind = api.Delete },
		"a Path":            func(r *Request) { r.Ops[1].Path = "/B" },
		"a longer Path":     func(r *Request) { r.Ops[1].Path = "/b/" },
		"Data":              func(r *Request) { r.Ops[0].Data = "y" },
		"no Data":           func(r *Request) { r.Ops[0].Data = "" },
		"a Version":         func(r *Request) { r.Ops[1].Version = 0 },
		"the last Version":  func(r *Request) { r.Ops[2].Version = 3 },
		"Flags":             func(r *Request) { r.Ops[0].Flags = 3 },
		"the last's Flags":  func(r *Request) { r.Ops[2].Flags = 1 },
		"the last's Data":   func(r *Request) { r.Ops[2].Data = "x" },
		"Path against Data": func(r *Request) { r.Ops[0].Path, r.Ops[0].Data = r.Ops[0].Data, r.Ops[0].Path },
	} {
		r := whole()
		change(&r)
		if Same(r, whole()) || Same(whole(), r) {
			t.Errorf("they part in %s: true", name)
		}
		if !Same(r, r) {
			t.Errorf("another %s, and itself: false", name)
		}
	}
	for name, c := range mayNotBe() {
		if !Same(c.r, Request{c.r.Sess, c.r.Num, slices.Clone(c.r.Ops)}) {
			t.Errorf("%s: false", name)
		}
	}
}

// P5.1: Tops.
func TestTops(t *testing.T) {
	for _, c := range []struct{ paths, want []string }{
		{nil, nil},
		{[]string{"/a"}, []string{"a"}},
		{[]string{"/a/b/c"}, []string{"a"}},
		{[]string{"/a", "/a", "/a"}, []string{"a"}},
		{[]string{"/a/x", "/a/y", "/a"}, []string{"a"}},
		{[]string{"/a", "/b"}, []string{"a", "b"}},
		{[]string{"/b/x", "/a", "/b", "none", "/a/z"}, []string{"a", "b"}},
		{[]string{"/c", "/a", "/b", "/a", "/c"}, []string{"a", "b", "c"}},
		{[]string{"/b", "/ab", "/a", "/a-", "/B", "/a0", "/10", "/9", "/~", "/!"}, []string{"!", "10", "9", "B", "a", "a-", "a0", "ab", "b", "~"}},
		{[]string{"/z/a", "/y/b", "/x/c"}, []string{"x", "y", "z"}},
		{noPaths(), nil},
		{append(noPaths(), "/b", "/a/", "/a"), []string{"a", "b"}},
		{append([]string{"/b", "/a"}, noPaths()...), []string{"a", "b"}},
		{[]string{"/" + fill(40) + "/a", "/" + fill(39)}, []string{fill(39), fill(40)}},
	} {
		var ops []api.Op
		for i, p := range c.paths {
			// The Kind is not asked for.
			ops = append(ops, api.Op{Kind: i - 1, Path: p, Data: "/data"})
		}
		if got := Tops(ops...); !slices.Equal(got, c.want) {
			t.Errorf("of %.60q: %q, not %q", c.paths, got, c.want)
		}
	}
	if got := Tops(); len(got) != 0 {
		t.Errorf("of none: %q", got)
	}
	if got := Tops(slices.Repeat(several(3), 1<<16)...); !slices.Equal(got, []string{"a"}) {
		t.Errorf("of very many: %d names", len(got))
	}
}

// R4: no call changes the list of Ops that it is handed, nor its spare room.
func TestOpsStay(t *testing.T) {
	room := []api.Op{create("/c/x"), create("/a"), create("/b"), create("/a/y"), {Kind: 9, Path: "spare"}, {Kind: 8, Path: "room"}}
	before := slices.Clone(room)
	r := asked(room[:4]...)
	May(r)
	Writes(r)
	Same(r, Request{1, 1, room[:3]})
	b := Put(r)
	names := Tops(room[:4]...)
	clear(names[:cap(names)])
	if !slices.Equal(room, before) {
		t.Errorf("a list was changed: %v", room)
	}
	clear(room)
	if got, e := Get(b); e != api.OK || !slices.Equal(got.Ops, before[:4]) {
		t.Errorf("Put's bytes hang on the list")
	}
}

// R4: what Put answers is new each time.
func TestPutMemory(t *testing.T) {
	for name, r := range mayBe() {
		one, two := Put(r), Put(r)
		clear(one[:cap(one)])
		if !bytes.Equal(two, plain(r)) || !bytes.Equal(Put(r), plain(r)) {
			t.Errorf("%s: two answers share memory", name)
		}
	}
}

// R4: Get changes no byte, spare room included; what it answers shares nothing and hangs on nothing.
func TestGetMemory(t *testing.T) {
	for name, r := range mayBe() {
		room := slices.Concat(plain(r), bytes.Repeat([]byte{7}, 100))
		before := slices.Clone(room)
		b := room[:len(room)-100]
		one, e1 := Get(b)
		two, e2 := Get(b)
		refused(t, name, b[:len(b)-1])
		refused(t, name, room)
		if !bytes.Equal(room, before) {
			t.Errorf("%s: what was handed in was changed", name)
		}
		clear(room)
		clear(one.Ops[:cap(one.Ops)])
		if e1 != api.OK || e2 != api.OK || !alike(two, r) {
			t.Errorf("%s: %d, %d, or an answer hangs on what was handed in, or on another answer", name, e1, e2)
		}
	}
}

// R4: the spare room of what is answered is empty.
func TestSpareRoom(t *testing.T) {
	names := Tops(create("/b"), create("/a"), create("/b"), create("/a"), create("/b"))
	for _, s := range names[len(names):cap(names)] {
		if s != "" {
			t.Errorf("%q stands behind Tops' names", s)
		}
	}
	r, _ := Get(plain(asked(several(5)...)))
	for _, o := range r.Ops[len(r.Ops):cap(r.Ops)] {
		if o != (api.Op{}) {
			t.Errorf("%v stands behind Get's Ops", o)
		}
	}
}

// R1, P5.1: whatever the bytes, what is got is what was put, and nothing else is.
func FuzzGet(f *testing.F) {
	f.Add([]byte{})
	for _, r := range mayBe() {
		f.Add(plain(r))
	}
	for _, c := range mayNotBe() {
		if len(c.r.Ops) < 100 {
			f.Add(plain(c.r))
		}
	}
	f.Fuzz(func(t *testing.T, b []byte) {
		r, e := Get(b)
		if e != api.OK {
			refused(t, "some bytes", b)
			return
		}
		if May(r) != api.OK || !bytes.Equal(plain(r), b) || !bytes.Equal(Put(r), b) {
			t.Fatalf("%+v is got of %x", r, b)
		}
	})
}

// R1, P5.1: whatever the Op, Good is the promise's, and a request of it is put just if it may be.
func FuzzGood(f *testing.F) {
	f.Add(api.Create, "/a", "x", 0, 2)
	f.Add(api.Set, "/a/b", "", -1, 0)
	f.Add(api.Create, "/a/"+fill(31), fill(1001), 0, 3)
	f.Add(0, "", "", math.MinInt, math.MaxInt)
	f.Fuzz(func(t *testing.T, kind int, p, data string, version, flags int) {
		o := api.Op{Kind: kind, Path: p, Data: data, Version: version, Flags: flags}
		// What a path is, is chapter 1's: here a Get of it tells whether it is one, a Create of it whether a number fits.
		isPath := Good(api.Op{Kind: api.Get, Path: p}) == api.OK
		numbered := Good(create(p+"0000000000")) == api.OK
		want := first(o, isPath, strings.Count(p, "/") == 1, numbered)
		if e := Good(o); e != want {
			t.Fatalf("%+v: %d, not %d", o, e, want)
		}
		b := Put(asked(o))
		if (len(b) > 0) != (want == api.OK) || len(b) > 0 && !bytes.Equal(b, plain(asked(o))) {
			t.Fatalf("%+v: %x is put", o, b)
		}
		r, e := Get(plain(asked(o)))
		if (e == api.OK) != (want == api.OK) || e == api.OK && !Same(r, asked(o)) {
			t.Fatalf("%+v: %d, %+v is got", o, e, r)
		}
	})
}
