package route

import (
	"encoding/binary"
	"fmt"
	"math/rand"
	"slices"
	"sort"
	"strings"
	"testing"

	"aviary/api"
)

// model is the chapter's words, one by one, with those that were moved in no order.
type model struct {
	shards  int64
	version int64
	moved   map[string]int64
}

func newModel(shards int64) *model { return &model{shards, 1, map[string]int64{}} }

// named tells whether a text is a name, by chapter 1's words.
func named(s string) bool {
	for _, c := range []byte(s) {
		if c < 33 || c > 126 || c == '/' {
			return false
		}
	}
	return len(s) >= 1 && len(s) <= 40 && s != "." && s != ".."
}

func (m *model) of(p string) int {
	names := strings.Split(p, "/")
	if len(p) > 200 || len(names) < 2 || len(names) > 9 || names[0] != "" {
		return -1
	}
	for _, name := range names[1:] {
		if !named(name) {
			return -1
		}
	}
	if shard, there := m.moved[names[1]]; there {
		return int(shard)
	}
	total := int64(0)
	for _, c := range []byte(names[1]) {
		total += int64(c)
	}
	return int(total % m.shards)
}

func (m *model) move(top string, shard int64) api.Errno {
	if !named(top) || !within(shard, 0, m.shards-1) {
		return api.EARG
	}
	others := 0
	for t := range m.moved {
		if t != top {
			others++
		}
	}
	if others == 50 {
		return api.ELIMIT
	}
	m.moved[top] = shard
	m.version++
	return api.OK
}

func (m *model) split(ops []api.Op) [][]int {
	lists := make([][]int, m.shards)
	for shard := range lists {
		for i, op := range ops {
			if m.of(op.Path) == shard {
				lists[shard] = append(lists[shard], i)
			}
		}
	}
	return lists
}

func (m *model) tops() []string {
	var tops []string
	for top := range m.moved {
		tops = append(tops, top)
	}
	sort.Strings(tops)
	return tops
}

func (m *model) put() []byte {
	b := numbers(m.shards, m.version, int64(len(m.moved)))
	for _, top := range m.tops() {
		b = append(b, entry(top, m.moved[top])...)
	}
	return b
}

// numbers makes bytes of numbers, whatever they are.
func numbers(list ...int64) []byte {
	var b []byte
	for _, v := range list {
		b = binary.BigEndian.AppendUint64(b, uint64(v))
	}
	return b
}

// entry makes the bytes of one that was moved.
func entry(top string, shard int64) []byte {
	return append(append(numbers(int64(len(top))), top...), numbers(shard)...)
}

// wantGet tells what Get answers, by the chapter's words; nil: EFORM.
func wantGet(b []byte) *model {
	if len(b) < 24 {
		return nil
	}
	number := func() int64 {
		v := int64(binary.BigEndian.Uint64(b))
		b = b[8:]
		return v
	}
	m := newModel(number())
	m.version = number()
	count := number()
	var tops []string
	for len(b) >= 8 {
		n := number()
		if n < 0 || n > int64(len(b))-8 {
			return nil
		}
		top := string(b[:n])
		b = b[n:]
		shard := number()
		if !named(top) || !within(shard, 0, m.shards-1) {
			return nil
		}
		tops = append(tops, top)
		m.moved[top] = shard
	}
	if len(b) > 0 || !within(m.shards, 1, 4) || int64(len(tops)) != count || len(tops) > 50 || !slices.Equal(tops, m.tops()) {
		return nil
	}
	if !within(m.version, 1+count, 1<<40) || count == 0 && m.version != 1 {
		return nil
	}
	return m
}

func within(v, least, most int64) bool { return least <= v && v <= most }

// asked are texts, paths and none, that a table is asked for.
func asked(m *model) []string {
	list := []string{"", "/", "a", "/a", "/b", "/c", "/d/a", "/ab", "/ba/a/b", "/~", "/~~~", "/!", "/a/", "//a", "/a//b", "/.", "/a/..", "/...", "/\x80", "/a\xff", "/zz/zz/zz"}
	for top := range m.moved {
		list = append(list, "/"+top, "/"+top+"/x", "/"+top+"!", "/x/"+top, top, "/"+top+"/")
	}
	return list
}

// hold holds all that can be asked of x against the model.
func hold(t *testing.T, what string, x *Table, m *model) {
	t.Helper()
	if x.Shards() != int(m.shards) || x.Version() != m.version {
		t.Fatalf("%s: %d shards, version %d, want %d, %d", what, x.Shards(), x.Version(), m.shards, m.version)
	}
	if got, want := x.Put(), m.put(); string(got) != string(want) {
		t.Fatalf("%s: Put: %x, want %x", what, got, want)
	}
	for _, p := range asked(m) {
		if got, want := x.Of(p), m.of(p); got != want {
			t.Fatalf("%s: Of(%q): %d, want %d", what, p, got, want)
		}
	}
}

// holdGet holds Get of b against the model, and tells its error.
func holdGet(t *testing.T, what string, b []byte) api.Errno {
	t.Helper()
	x, e := Get(b)
	m := wantGet(b)
	if m == nil {
		if x != nil || e != api.EFORM {
			t.Fatalf("%s: Get: %v, %d, want EFORM\n%x", what, x, e, b)
		}
		return e
	}
	if x == nil || e != api.OK {
		t.Fatalf("%s: Get: %v, %d, want OK\n%x", what, x, e, b)
	}
	hold(t, what, x, m)
	if again := x.Put(); string(again) != string(b) {
		t.Fatalf("%s: Put of what Get tells: %x, want %x", what, again, b)
	}
	return e
}

// someTop makes a text that often is a name, and often one of a few.
func someTop(r *rand.Rand) string {
	switch k := r.Intn(12); {
	case k == 0:
		return []string{"", ".", "..", "a/b", "/a", " ", "a b", "\x7f", "\x80", strings.Repeat("x", 41), "..."}[r.Intn(11)]
	case k < 4:
		return strings.Repeat(string([]byte{byte(33 + r.Intn(94))}), 1+r.Intn(41))
	}
	return fmt.Sprint("n", r.Intn(60))
}

// step does one call on both, and holds what it answers.
func step(t *testing.T, r *rand.Rand, x *Table, m *model) {
	t.Helper()
	if r.Intn(3) > 0 {
		top, shard := someTop(r), r.Intn(int(m.shards)+2)-1
		if e, want := x.Move(top, shard), m.move(top, int64(shard)); e != want {
			t.Fatalf("Move(%q, %d): %d, want %d", top, shard, e, want)
		}
		return
	}
	var ops []api.Op
	for range r.Intn(9) {
		ops = append(ops, api.Op{Kind: r.Intn(9), Path: "/" + someTop(r) + []string{"", "", "/k", "/"}[r.Intn(4)]})
	}
	if got, want := fmt.Sprint(x.Split(ops...)), fmt.Sprint(m.split(ops)); got != want {
		t.Fatalf("Split of %v: %s, want %s", ops, got, want)
	}
}

// P16.1, P16.2: long runs of all calls answer as the chapter's words do; what Get reads midway goes on as the first does.
func TestAgainstModel(t *testing.T) {
	full := 0
	for seed := range int64(100) {
		r := rand.New(rand.NewSource(seed))
		shards := 1 + r.Intn(4)
		x, m := fresh(t, shards), newModel(int64(shards))
		for range 150 {
			step(t, r, x, m)
			hold(t, "the run", x, m)
			if r.Intn(20) == 0 {
				read, e := Get(x.Put())
				if e != api.OK {
					t.Fatalf("run %d: Get: %d", seed, e)
				}
				x = read
			}
		}
		if len(m.moved) == 50 {
			full++
		}
	}
	if full == 0 || full == 100 {
		t.Errorf("%d of 100 runs went to the limit: they hold too little", full)
	}
}

// P16.2: Get of bytes near what may be answers as the chapter's words do.
func TestGetAgainstModel(t *testing.T) {
	well := 0
	for seed := range int64(4000) {
		r := rand.New(rand.NewSource(seed))
		x := fresh(t, 1+r.Intn(4))
		for range r.Intn(8) {
			x.Move(someTop(r), r.Intn(x.Shards()))
		}
		b := x.Put()
		for range 1 + r.Intn(2) {
			at := r.Intn(len(b))
			b[at] += byte(r.Intn(5) - 2)
		}
		if holdGet(t, "changed bytes", b) == api.OK {
			well++
		}
	}
	if well < 400 || well > 3600 {
		t.Errorf("%d of 4000 were read: the run holds too little", well)
	}
}
