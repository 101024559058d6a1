package coord

import (
	"encoding/binary"
	"math/rand"
	"slices"
	"testing"

	"aviary/api"
)

// one is what is kept of an id, by the chapter's words, with sets of shards as bits.
type one struct {
	shards, owes int
	votes        [4]int64
	decided      int64
}

// model is the chapter's words, one by one.
type model map[int64]one

func set(shards ...int) int {
	bits := 0
	for _, s := range shards {
		bits |= 1 << s
	}
	return bits
}

func list(bits int) []int {
	var shards []int
	for s := range 4 {
		if bits>>s&1 == 1 {
			shards = append(shards, s)
		}
	}
	return shards
}

func (m model) begin(id int64, shards ...int) api.Errno {
	if id < 1 || len(shards) == 0 {
		return api.EARG
	}
	for i, s := range shards {
		if s < 0 || s > 3 || i > 0 && s <= shards[i-1] {
			return api.EARG
		}
	}
	if m[id].shards != 0 {
		return api.EEXIST
	}
	m[id] = one{shards: set(shards...), owes: set(shards...)}
	return api.OK
}

// has tells whether a shard is one of an id's.
func (m model) has(id int64, shard int) bool { return slices.Contains(list(m[id].shards), shard) }

func (m model) vote(id int64, shard int, ok bool) api.Errno {
	if !m.has(id, shard) {
		return api.ENONE
	}
	x := m[id]
	if x.votes[shard] != 0 || x.decided != 0 {
		return api.OK
	}
	if !ok {
		x.votes[shard], x.decided = 2, 2
		m[id] = x
		return api.OK
	}
	x.votes[shard] = 1
	all := true
	for _, s := range list(x.shards) {
		all = all && x.votes[s] == 1
	}
	if all {
		x.decided = 1
	}
	m[id] = x
	return api.OK
}

func (m model) abort(id int64) (bool, api.Errno) {
	x := m[id]
	if x.shards == 0 {
		return false, api.ENONE
	}
	if x.decided == 0 {
		x.decided = 2
		m[id] = x
	}
	return x.decided == 1, api.OK
}

func (m model) done(id int64, shard int) api.Errno {
	if !m.has(id, shard) {
		return api.ENONE
	}
	x := m[id]
	if x.decided == 0 {
		return api.EWAIT
	}
	x.owes &^= 1 << shard
	m[id] = x
	return api.OK
}

// ids tells all that were begun, rising; open those alone that are not over.
func (m model) ids(open bool) []int64 {
	var ids []int64
	for id, x := range m {
		if !open || x.decided == 0 || x.owes != 0 {
			ids = append(ids, id)
		}
	}
	slices.Sort(ids)
	return ids
}

func (m model) put() []byte {
	out := []int64{int64(len(m))}
	for _, id := range m.ids(false) {
		x := m[id]
		out = append(append(out, id), counted(x.shards)...)
		for _, s := range list(x.shards) {
			out = append(out, x.votes[s])
		}
		out = append(append(out, x.decided), counted(x.owes)...)
	}
	return numbers(out...)
}

// counted tells how many shards, and these.
func counted(bits int) []int64 {
	out := []int64{int64(len(list(bits)))}
	for _, s := range list(bits) {
		out = append(out, int64(s))
	}
	return out
}

// numbers makes bytes of numbers, whatever they are.
func numbers(list ...int64) []byte {
	var b []byte
	for _, v := range list {
		b = binary.BigEndian.AppendUint64(b, uint64(v))
	}
	return b
}

// reachable holds all that calls can make of an id.
var reachable = reach()

// reach goes from each Begin on, by each call there is, till nothing new comes.
func reach() map[one]bool {
	known := map[one]bool{}
	var walk func(one)
	walk = func(x one) {
		if known[x] {
			return
		}
		known[x] = true
		for _, call := range everyCall() {
			m := model{1: x}
			call(m)
			walk(m[1])
		}
	}
	for bits := 1; bits < 16; bits++ {
		walk(one{shards: bits, owes: bits})
	}
	return known
}

// everyCall tells the calls that may change id 1.
func everyCall() []func(model) {
	calls := []func(model){func(m model) { m.abort(1) }}
	for s := range 4 {
		calls = append(calls,
			func(m model) { m.vote(1, s, true) },
			func(m model) { m.vote(1, s, false) },
			func(m model) { m.done(1, s) })
	}
	return calls
}

// wantGet tells what Get answers, by the chapter's words; nil: EFORM.
func wantGet(b []byte) model {
	if len(b)%8 != 0 {
		return nil
	}
	var left []int64
	for ; len(b) > 0; b = b[8:] {
		left = append(left, int64(binary.BigEndian.Uint64(b)))
	}
	bad := false
	next := func(least, most int64) int64 {
		if bad || len(left) == 0 || left[0] < least || left[0] > most {
			bad = true
			return 0
		}
		v := left[0]
		left = left[1:]
		return v
	}
	shards := func() int {
		bits := 0
		last := int64(-1)
		for range next(0, 4) {
			last = next(last+1, 3)
			bits |= 1 << last
		}
		return bits
	}
	m := model{}
	last := int64(0)
	count := next(0, int64(len(left)))
	for int64(len(m)) < count && !bad {
		last = next(last+1, 1<<63-1)
		x := one{shards: shards()}
		for _, s := range list(x.shards) {
			x.votes[s] = next(0, 2)
		}
		x.decided = next(0, 2)
		x.owes = shards()
		if !reachable[x] {
			bad = true
		}
		m[last] = x
	}
	if bad || len(left) > 0 {
		return nil
	}
	return m
}

// hold holds all that can be asked of c against the model.
func hold(t *testing.T, what string, c *Coord, m model) {
	t.Helper()
	if got, want := c.Open(), m.ids(true); !slices.Equal(got, want) {
		t.Fatalf("%s: Open: %v, want %v", what, got, want)
	}
	if got, want := c.Put(), m.put(); string(got) != string(want) {
		t.Fatalf("%s: Put: %x, want %x", what, got, want)
	}
	for _, id := range append(m.ids(false), 0, -1, 1, 1<<62) {
		x := m[id]
		if commit, known := c.Decision(id); commit != (x.decided == 1) || known != (x.decided != 0) {
			t.Fatalf("%s: Decision(%d): %v, %v, want %d", what, id, commit, known, x.decided)
		}
		if got := c.Owes(id); !slices.Equal(got, list(x.owes)) {
			t.Fatalf("%s: Owes(%d): %v, want %v", what, id, got, list(x.owes))
		}
	}
}

// holdGet holds Get of b against the model, and tells its error.
func holdGet(t *testing.T, what string, b []byte) api.Errno {
	t.Helper()
	c, e := Get(b)
	m := wantGet(b)
	if m == nil {
		if c != nil || e != api.EFORM {
			t.Fatalf("%s: Get: %v, %d, want EFORM\n%x", what, c, e, b)
		}
		return e
	}
	if c == nil || e != api.OK {
		t.Fatalf("%s: Get: %v, %d, want OK\n%x", what, c, e, b)
	}
	hold(t, what, c, m)
	if again := c.Put(); string(again) != string(b) {
		t.Fatalf("%s: Put of what Get tells: %x, want %x", what, again, b)
	}
	return e
}

// someShards tells shards, mostly such as may be.
func someShards(r *rand.Rand) []int {
	shards := list(r.Intn(16))
	if r.Intn(8) == 0 {
		shards = append(shards, r.Intn(7)-1)
	}
	if r.Intn(12) == 0 {
		slices.Reverse(shards)
	}
	return shards
}

// step does one call on both, and holds what it answers.
func step(t *testing.T, r *rand.Rand, ids int, c *Coord, m model) {
	t.Helper()
	id, shard, ok := int64(r.Intn(ids+2)), r.Intn(6)-1, r.Intn(6) > 0
	switch k := r.Intn(20); {
	case k < 4:
		shards := someShards(r)
		if got, want := c.Begin(id, shards...), m.begin(id, shards...); got != want {
			t.Fatalf("Begin(%d, %v): %d, want %d", id, shards, got, want)
		}
	case k < 11:
		if got, want := c.Vote(id, shard, ok), m.vote(id, shard, ok); got != want {
			t.Fatalf("Vote(%d, %d, %v): %d, want %d", id, shard, ok, got, want)
		}
	case k < 12:
		got, e := c.Abort(id)
		if commit, want := m.abort(id); got != commit || e != want {
			t.Fatalf("Abort(%d): %v, %d, want %v, %d", id, got, e, commit, want)
		}
	default:
		if got, want := c.Done(id, shard), m.done(id, shard); got != want {
			t.Fatalf("Done(%d, %d): %d, want %d", id, shard, got, want)
		}
	}
}

// P20.1: long runs of all calls answer as the chapter's words do; what Get reads midway goes on as the first does.
func TestAgainstModel(t *testing.T) {
	for seed := range int64(300) {
		r := rand.New(rand.NewSource(seed))
		ids := 1 + r.Intn(12)
		c, m := New(), model{}
		for range 200 {
			step(t, r, ids, c, m)
			hold(t, "the run", c, m)
			if r.Intn(20) == 0 {
				read, e := Get(c.Put())
				if e != api.OK {
					t.Fatalf("run %d: Get: %d", seed, e)
				}
				c = read
			}
		}
	}
}

// P20.1: all that calls can make of one id is read back, and any call on it answers as the chapter's words do.
func TestGetOfAll(t *testing.T) {
	if len(reachable) < 500 {
		t.Fatalf("%d: the walk holds too little", len(reachable))
	}
	for x := range reachable {
		m := model{9: x}
		b := m.put()
		if e := holdGet(t, "one that calls can make", b); e != api.OK {
			t.Fatalf("%+v: %d", x, e)
		}
		r := rand.New(rand.NewSource(1))
		c, _ := Get(b)
		for range 12 {
			step(t, r, 9, c, m)
		}
		hold(t, "behind it", c, m)
	}
}

// P20.1: of all votes, decisions and shards that owe those alone are read that calls can make.
func TestGetOfAnything(t *testing.T) {
	read, all := 0, 0
	for shards := 1; shards < 16; shards++ {
		for v := range 256 {
			votes := [4]int64{int64(v & 3), int64(v >> 2 & 3), int64(v >> 4 & 3), int64(v >> 6)}
			for decided := range int64(4) {
				for owes := range 16 {
					x := one{shards: shards, owes: owes, votes: votes, decided: decided}
					all++
					if holdGet(t, "any one", model{3: x}.put()) == api.OK {
						read++
					}
				}
			}
		}
	}
	if read < 500 || read == all {
		t.Errorf("%d of %d were read", read, all)
	}
}

// P20.1: Get of numbers near and past what may be answers as the chapter's words do.
func TestGetAgainstModel(t *testing.T) {
	well := 0
	for seed := range int64(5000) {
		r := rand.New(rand.NewSource(seed))
		c, m := New(), model{}
		for range r.Intn(60) {
			step(t, r, 4, c, m)
		}
		b := c.Put()
		for range r.Intn(3) {
			at := 8 * r.Intn(len(b)/8)
			v := int64(binary.BigEndian.Uint64(b[at:])) + int64(r.Intn(5)-2)
			binary.BigEndian.PutUint64(b[at:], uint64(v))
		}
		if holdGet(t, "changed numbers", b) == api.OK {
			well++
		}
	}
	if well < 500 || well > 4500 {
		t.Errorf("%d of 5000 were read: the run holds too little", well)
	}
}
