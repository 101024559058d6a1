package route

import (
	"bytes"
	"fmt"
	"math"
	"slices"
	"strings"
	"testing"

	"aviary/api"
)

// some makes a Table with something of each: moved once, again, to the shard that it had.
func some(t *testing.T) *Table {
	t.Helper()
	x := fresh(t, 3)
	for i, top := range []string{"kk", "a", "kk", "z", strings.Repeat("q", 40), "a"} {
		moves(t, x, top, i%3, api.OK, int64(i+2))
	}
	return x
}

// table makes bytes of three numbers and entries, whatever they are.
func table(shards, version, count int64, entries ...[]byte) []byte {
	return append(numbers(shards, version, count), bytes.Join(entries, nil)...)
}

// rising makes so many entries that may be.
func rising(n int) [][]byte {
	var list [][]byte
	for i := range n {
		list = append(list, entry(fmt.Sprintf("n%02d", i), int64(i%2)))
	}
	return list
}

// P16.2: Get reads back what Put wrote, and what was read goes on as the first would have.
func TestGetGoesOn(t *testing.T) {
	a := some(t)
	b, e := Get(a.Put())
	if e != api.OK || b.Shards() != 3 || b.Version() != 7 || string(a.Put()) != string(b.Put()) {
		t.Fatalf("Get: %d", e)
	}
	for _, x := range []*Table{a, b} {
		of(t, x, "/a/b", 2)
		of(t, x, "/kk", 2)
		of(t, x, "/z", 0)
		of(t, x, "/b", 2)
		of(t, x, "b", -1)
		if got := fmt.Sprint(x.Split(ops("/z", "/a", "/b", "?", "/d/a", "/kk/a")...)); got != "[[0] [4] [1 2 5]]" {
			t.Errorf("Split: %s", got)
		}
		moves(t, x, "kk", 3, api.EARG, 7)
		moves(t, x, "k/k", 0, api.EARG, 7)
		moves(t, x, "kk", 0, api.OK, 8)
		for i := range 46 {
			moves(t, x, fmt.Sprint("n", i), 1, api.OK, int64(9+i))
		}
		moves(t, x, "more", 1, api.ELIMIT, 54)
		moves(t, x, "z", 2, api.OK, 55)
		of(t, x, "/kk/n1", 0)
		of(t, x, "/n1/kk", 1)
		of(t, x, "/z/z", 2)
	}
	if string(a.Put()) != string(b.Put()) {
		t.Errorf("%x, and %x", a.Put(), b.Put())
	}
}

// P16.2: what one that was read is told the first does not know.
func TestGetApart(t *testing.T) {
	a := some(t)
	want := a.Put()
	b, _ := Get(want)
	b.Move("a", 1)
	b.Move("new", 1)
	if string(a.Put()) != string(want) {
		t.Error("the first has changed")
	}
}

// P16.2: at the end of the versions it goes on.
func TestGetAtTheEnd(t *testing.T) {
	x, e := Get(table(2, 1<<40, 1, entry("a", 0)))
	if e != api.OK || x.Version() != 1<<40 {
		t.Fatalf("Get: %d", e)
	}
	moves(t, x, "a", 1, api.OK, 1<<40+1)
	// The words put no end to the version but where it is read.
	b := x.Put()
	if string(b) != string(table(2, 1<<40+1, 1, entry("a", 1))) {
		t.Errorf("Put: %x", b)
	}
	if e := holdGet(t, "past the end", b); e != api.EFORM {
		t.Errorf("past the end: %d", e)
	}
}

// P16.2: shards, the version and a shard, each at both ends of what may be and one beyond.
func TestGetNumbers(t *testing.T) {
	const far = 1 << 40
	a := entry("a", 0)
	for i, c := range []struct {
		b []byte
		e api.Errno
	}{
		// shards
		{table(1, 1, 0), api.OK}, {table(2, 1, 0), api.OK}, {table(3, 1, 0), api.OK}, {table(4, 1, 0), api.OK}, {table(1, 2, 1, a), api.OK}, {table(4, 2, 1, a), api.OK},
		{table(0, 1, 0), api.EFORM}, {table(5, 1, 0), api.EFORM}, {table(-1, 1, 0), api.EFORM}, {table(0, 2, 1, a), api.EFORM}, {table(5, 2, 1, a), api.EFORM},
		{table(math.MaxInt64, 1, 0), api.EFORM}, {table(math.MinInt64, 1, 0), api.EFORM}, {table(1<<32+1, 1, 0), api.EFORM},
		// the version where none were moved
		{table(2, 2, 0), api.EFORM}, {table(2, 0, 0), api.EFORM}, {table(2, -1, 0), api.EFORM}, {table(2, far, 0), api.EFORM}, {table(2, 1<<32+1, 0), api.EFORM},
		{table(2, math.MaxInt64, 0), api.EFORM}, {table(2, math.MinInt64, 0), api.EFORM},
		// the version where some were
		{table(2, 2, 1, a), api.OK}, {table(2, 3, 1, a), api.OK}, {table(2, 1000, 1, a), api.OK}, {table(2, far-1, 1, a), api.OK}, {table(2, far, 1, a), api.OK},
		{table(2, 1, 1, a), api.EFORM}, {table(2, 0, 1, a), api.EFORM}, {table(2, -1, 1, a), api.EFORM}, {table(2, far+1, 1, a), api.EFORM},
		{table(2, math.MaxInt64, 1, a), api.EFORM}, {table(2, math.MinInt64, 1, a), api.EFORM}, {table(2, math.MinInt64+2, 1, a), api.EFORM},
		{table(2, 4, 3, rising(3)...), api.OK}, {table(2, far, 3, rising(3)...), api.OK}, {table(2, far+1, 3, rising(3)...), api.EFORM}, {table(2, 3, 3, rising(3)...), api.EFORM}, {table(2, 1, 3, rising(3)...), api.EFORM},
		{table(2, 51, 50, rising(50)...), api.OK}, {table(2, 50, 50, rising(50)...), api.EFORM}, {table(2, 1, 50, rising(50)...), api.EFORM},
		// a shard
		{table(1, 2, 1, entry("a", 0)), api.OK}, {table(1, 2, 1, entry("a", 1)), api.EFORM}, {table(1, 2, 1, entry("a", -1)), api.EFORM},
		{table(2, 2, 1, entry("a", 1)), api.OK}, {table(2, 2, 1, entry("a", 2)), api.EFORM}, {table(3, 2, 1, entry("a", 2)), api.OK}, {table(3, 2, 1, entry("a", 3)), api.EFORM},
		{table(4, 2, 1, entry("a", 3)), api.OK}, {table(4, 2, 1, entry("a", 4)), api.EFORM}, {table(4, 2, 1, entry("a", -1)), api.EFORM},
		{table(4, 2, 1, entry("a", math.MaxInt64)), api.EFORM}, {table(4, 2, 1, entry("a", math.MinInt64)), api.EFORM}, {table(4, 2, 1, entry("a", 1<<32)), api.EFORM},
		{table(2, 3, 2, a, entry("b", 1)), api.OK}, {table(2, 3, 2, a, entry("b", 2)), api.EFORM}, {table(2, 3, 2, a, entry("b", -1)), api.EFORM}, {table(2, 3, 2, entry("a", 2), entry("b", 1)), api.EFORM},
	} {
		if e := holdGet(t, fmt.Sprint("number ", i), c.b); e != c.e {
			t.Errorf("number %d: %d, want %d\n%x", i, e, c.e, c.b)
		}
	}
}

// P16.2: tops rise by their bytes, and each is there once.
func TestGetTops(t *testing.T) {
	for i, c := range []struct {
		tops []string
		e    api.Errno
	}{
		{[]string{"a", "b"}, api.OK}, {[]string{"a", "aa"}, api.OK}, {[]string{"B", "a"}, api.OK}, {[]string{"a!", "aa", "b"}, api.OK}, {[]string{"10", "9"}, api.OK}, {[]string{"!", "~"}, api.OK}, {[]string{"b", "c", "d"}, api.OK},
		{[]string{"b", "a"}, api.EFORM}, {[]string{"aa", "a"}, api.EFORM}, {[]string{"a", "B"}, api.EFORM}, {[]string{"9", "10"}, api.EFORM}, {[]string{"~", "!"}, api.EFORM},
		{[]string{"a", "a"}, api.EFORM}, {[]string{"a", "a", "b"}, api.EFORM}, {[]string{"a", "b", "b"}, api.EFORM}, {[]string{"a", "b", "a"}, api.EFORM}, {[]string{"a", "c", "b"}, api.EFORM}, {[]string{"b", "a", "c"}, api.EFORM}, {[]string{"c", "b", "a"}, api.EFORM},
	} {
		b := numbers(2, 9, int64(len(c.tops)))
		for n, top := range c.tops {
			b = append(b, entry(top, int64(n%2))...)
		}
		if e := holdGet(t, fmt.Sprint("number ", i), b); e != c.e {
			t.Errorf("number %d: %q: %d, want %d", i, c.tops, e, c.e)
		}
	}
	for _, top := range names() {
		if e := holdGet(t, top, table(2, 2, 1, entry(top, 1))); e != api.OK {
			t.Errorf("of %q: %d", top, e)
		}
	}
	for _, top := range noNames() {
		for _, b := range [][]byte{table(2, 2, 1, entry(top, 1)), table(2, 3, 2, entry("!", 1), entry(top, 1)), table(2, 3, 2, entry(top, 1), entry("~", 0))} {
			if e := holdGet(t, "no name", b); e != api.EFORM {
				t.Errorf("of %.50q: %d", top, e)
			}
		}
	}
}

// P16.2: 50 may be moved; how many is told just as the bytes hold them.
func TestGetCounts(t *testing.T) {
	a, many := entry("a", 0), rising(52)
	for i, c := range []struct {
		b []byte
		e api.Errno
	}{
		{table(2, 99, 49, many[:49]...), api.OK}, {table(2, 99, 50, many[:50]...), api.OK}, {table(2, 99, 51, many[:51]...), api.EFORM}, {table(2, 99, 52, many...), api.EFORM},
		{table(2, 99, 50, many[:51]...), api.EFORM}, {table(2, 99, 50, many[:49]...), api.EFORM}, {table(2, 99, 51), api.EFORM}, {table(2, 99, 50), api.EFORM},
		{table(2, 2, 1), api.EFORM}, {table(2, 3, 2, a), api.EFORM}, {table(2, 2, 0, a), api.EFORM}, {table(2, 1, 0, a), api.EFORM}, {table(2, 3, 1, a, entry("b", 0)), api.EFORM}, {table(2, 2, 1, a, numbers(0)), api.EFORM}, {table(2, 2, 1, a, numbers(1)), api.EFORM},
		{table(2, 1, -1), api.EFORM}, {table(2, 0, -1), api.EFORM}, {table(2, 2, -1, a), api.EFORM}, {table(2, 2, math.MinInt64, a), api.EFORM}, {table(2, 2, math.MaxInt64, a), api.EFORM}, {table(2, 2, 1<<32, a), api.EFORM}, {table(2, 2, 1<<32+1, a), api.EFORM},
		{table(2, 1, math.MinInt64), api.EFORM}, {table(2, math.MinInt64, math.MaxInt64), api.EFORM},
		// how many bytes a top has
		{table(2, 2, 1, numbers(-1, 0)), api.EFORM}, {table(2, 2, 1, numbers(0, 0)), api.EFORM}, {table(2, 2, 1, numbers(2), []byte("a"), numbers(0)), api.EFORM}, {table(2, 2, 1, numbers(40), []byte("a"), numbers(0)), api.EFORM},
		{table(2, 2, 1, numbers(math.MaxInt64), []byte("a"), numbers(0)), api.EFORM}, {table(2, 2, 1, numbers(math.MinInt64), []byte("a"), numbers(0)), api.EFORM}, {table(2, 2, 1, numbers(9), []byte("a"), numbers(0)), api.EFORM},
		{nil, api.EFORM}, {numbers(2), api.EFORM}, {numbers(2, 1), api.EFORM}, {numbers(2, 1, 0, 0), api.EFORM}, {numbers(0, 0, 0), api.EFORM},
	} {
		if e := holdGet(t, fmt.Sprint("number ", i), c.b); e != c.e {
			t.Errorf("number %d: %d, want %d\n%x", i, e, c.e, c.b)
		}
	}
}

// P16.2: bytes that are cut off anywhere, or have one more, or another one, are read as the chapter's words say.
func TestGetSpoiled(t *testing.T) {
	one := fresh(t, 1)
	moves(t, one, "a", 0, api.OK, 2)
	well := 0
	for i, x := range []*Table{fresh(t, 1), fresh(t, 4), one, some(t)} {
		b := x.Put()
		for n := range b {
			if e := holdGet(t, "cut off", b[:n]); e != api.EFORM {
				t.Errorf("%d, cut off at %d: %d", i, n, e)
			}
			if e := holdGet(t, "cut off ahead", b[n+1:]); e != api.EFORM {
				t.Errorf("%d, without %d bytes ahead: %d", i, n+1, e)
			}
			for v := range 256 {
				changed := bytes.Clone(b)
				changed[n] = byte(v)
				if holdGet(t, "one changed", changed) == api.OK {
					well++
				}
			}
		}
		for v := range 256 {
			more := append(bytes.Clone(b), byte(v))
			ahead := append([]byte{byte(v)}, b...)
			if holdGet(t, "one more", more) != api.EFORM || holdGet(t, "one more ahead", ahead) != api.EFORM {
				t.Errorf("%d: one byte more", i)
			}
		}
		if e := holdGet(t, "twice", append(bytes.Clone(b), b...)); e != api.EFORM {
			t.Errorf("%d, twice: %d", i, e)
		}
	}
	if well < 500 {
		t.Errorf("only %d with another byte are read", well)
	}
}

// R4: Get changes nothing of what it is handed, spare room included, and keeps nothing of it.
func TestGetKeepsNothing(t *testing.T) {
	good := some(t).Put()
	for _, b := range [][]byte{good, good[:len(good)-1], table(2, 3, 2, entry("b", 0), entry("a", 0))} {
		long := append(bytes.Clone(b), 1, 2, 3, 4, 5, 6, 7, 8)
		before := bytes.Clone(long)
		x, e := Get(long[:len(b)])
		if !bytes.Equal(long, before) {
			t.Fatalf("what was handed in has changed: %x", long)
		}
		if e != api.OK {
			continue
		}
		spoilBytes(long)
		hold(t, "kept", x, wantGet(b))
		x.Move("a", 0)
		x.Move("!", 1)
		x.Split(ops("/a", "/!")...)
		spoilBytes(x.Put())
		if slices.ContainsFunc(long, func(c byte) bool { return c != 0xee }) {
			t.Fatal("a later call has changed what was handed in")
		}
	}
	for _, b := range [][]byte{nil, {}} {
		if x, e := Get(b); x != nil || e != api.EFORM {
			t.Errorf("of no bytes: %v, %d", x, e)
		}
	}
}
