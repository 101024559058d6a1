package route

import (
	"fmt"
	"math"
	"slices"
	"strings"
	"testing"

	"aviary/api"
)

func fresh(t *testing.T, shards int) *Table {
	t.Helper()
	x, e := New(shards)
	if x == nil || e != api.OK {
		t.Fatalf("New(%d): %v, %d", shards, x, e)
	}
	return x
}

// moves holds what Move answers, and the version behind it.
func moves(t *testing.T, x *Table, top string, shard int, e api.Errno, version int64) {
	t.Helper()
	if got := x.Move(top, shard); got != e || x.Version() != version {
		t.Fatalf("Move(%.50q, %d): %d, version %d, want %d, %d", top, shard, got, x.Version(), e, version)
	}
}

// of holds whose a path is.
func of(t *testing.T, x *Table, p string, shard int) {
	t.Helper()
	if got := x.Of(p); got != shard {
		t.Errorf("of %d shards: Of(%.50q): %d, want %d", x.Shards(), p, got, shard)
	}
}

// ops makes Ops of paths.
func ops(paths ...string) []api.Op {
	var list []api.Op
	for _, p := range paths {
		list = append(list, api.Op{Kind: api.Check, Path: p, Version: -1})
	}
	return list
}

// noNames are texts that are no name.
func noNames() []string {
	return []string{
		"", ".", "..", "/", "/a", "a/", "a/b", "a/b/c", "//", " ", "a b", " a", "a ", "\x00", "a\n", "\x1f", "\x20", "\x7f", "a\x7f", "\x80", "a\xff", "é",
		strings.Repeat("x", 41), strings.Repeat("x", 42), strings.Repeat("a/", 20), strings.Repeat("x", 200), strings.Repeat("x", 1<<20),
	}
}

// names are texts that are, at the ends of what may be.
func names() []string {
	return []string{"a", "!", "~", "...", ".a", "a.", "..b", "0", "-1", "\\", strings.Repeat("x", 39), strings.Repeat("x", 40), strings.Repeat("~", 40), strings.Repeat("!", 40)}
}

// noShards are numbers that no shard has where there are so many.
func noShards(shards int) []int {
	return []int{-1, -2, -shards, shards, shards + 1, 1 << 32, 1<<32 + shards - 1, math.MaxInt, math.MinInt, math.MinInt + 1, math.MaxInt32, math.MinInt32}
}

// The chapter's example.
func TestExample(t *testing.T) {
	of(t, fresh(t, 2), "/a", 1)
}

// P16.1: how many shards New takes; without them there is nothing; version 1.
func TestNew(t *testing.T) {
	for _, shards := range []int{0, -1, -4, 5, 6, 1 << 32, 1<<32 + 1, math.MaxInt, math.MinInt, math.MinInt + 1} {
		if x, e := New(shards); x != nil || e != api.EARG {
			t.Errorf("New(%d): %v, %d", shards, x, e)
		}
	}
	for _, shards := range []int{1, 2, 3, api.MaxShard} {
		x := fresh(t, shards)
		if x.Version() != 1 || x.Shards() != shards {
			t.Errorf("New(%d): version %d, %d shards", shards, x.Version(), x.Shards())
		}
		moves(t, x, "a", shards-1, api.OK, 2)
		if x.Shards() != shards {
			t.Errorf("New(%d): %d shards behind a Move", shards, x.Shards())
		}
	}
}

// P16.1: what one is told another does not know.
func TestApart(t *testing.T) {
	a, b := fresh(t, 2), fresh(t, 2)
	moves(t, a, "a", 0, api.OK, 2)
	of(t, a, "/a", 0)
	of(t, b, "/a", 1)
	moves(t, b, "b", 1, api.OK, 2)
	of(t, a, "/b", 0)
	if a.Version() != 2 || b.Version() != 2 {
		t.Errorf("versions %d and %d", a.Version(), b.Version())
	}
}

// P16.1: of what is no path -1 is told, also where its names were moved.
func TestOfNoPath(t *testing.T) {
	for shards := 1; shards <= 4; shards++ {
		x := fresh(t, shards)
		for range 2 {
			for _, p := range []string{
				"", "/", "//", "a", "a/b", "/a/", "//a", "/a//b", "/.", "/..", "/./a", "/a/..", " /a", "/a b", "/ ", "/a\n", "/\x00", "/\x7f", "/a\x7f",
				"/\x80", "/\xff", "/a\x80", "/a/\xff", "/\xe1", "/é", "/a/é", "\\a", "/" + strings.Repeat("x", 41), "/a/" + strings.Repeat("x", 41),
				strings.Repeat("/a", 9), strings.Repeat("/"+strings.Repeat("x", 40), 5), strings.Repeat("/a", 1<<20), strings.Repeat("a", 1<<20),
			} {
				of(t, x, p, -1)
			}
			moves(t, x, "a", 0, api.OK, x.Version()+1)
			moves(t, x, strings.Repeat("x", 40), shards-1, api.OK, x.Version()+1)
		}
	}
}

// P16.1: a path's shard is its Top's bytes, summed, modulo how many there are: whatever stands behind the Top.
func TestOfSums(t *testing.T) {
	for _, c := range []struct {
		top string
		sum int
	}{
		{"a", 97}, {"b", 98}, {"c", 99}, {"d", 100}, {"e", 101}, {"!", 33}, {"~", 126}, {"0", 48}, {"A", 65},
		{"ab", 195}, {"ba", 195}, {"aa", 194}, {"~~", 252}, {"~~!", 285}, {"ccd", 298}, {"abc", 294}, {"...", 138}, {"a.", 143},
		{"~~$", 288}, {"aaaaa", 485}, {strings.Repeat("x", 40), 4800}, {strings.Repeat("~", 40), 5040}, {strings.Repeat("~", 39), 4914}, {strings.Repeat("}", 39), 4875}, {strings.Repeat("!", 40), 1320},
	} {
		for shards := 1; shards <= 4; shards++ {
			x := fresh(t, shards)
			want := c.sum % shards
			for _, p := range []string{"", "/a", "/b", "/a/b", "/~", "/d/e/f/g/h/i/j", "/" + c.top, "/" + strings.Repeat("x", 40)} {
				of(t, x, "/"+c.top+p, want)
			}
		}
	}
	x := fresh(t, 4)
	for b := 33; b <= 126; b++ {
		s := string([]byte{byte(b)})
		if b == '/' || b == '.' {
			continue
		}
		of(t, x, "/"+s, b%4)
		of(t, x, "/a"+s, (b+97)%4)
	}
}

// P16.1: of a Top that was moved the last Move tells; those beside it stay.
func TestOfMoved(t *testing.T) {
	for shards := 1; shards <= 4; shards++ {
		x := fresh(t, shards)
		version := int64(1)
		for round := range 2 {
			for shard := range shards {
				version++
				moves(t, x, "mm", (shard+round)%shards, api.OK, version)
				for _, p := range []string{"/mm", "/mm/a", "/mm/mm", "/mm/a/b/c"} {
					of(t, x, p, (shard+round)%shards)
				}
				for _, p := range []string{"/m", "/mmm", "/ml", "/mn", "/MM", "/m/m", "/a/mm", "/a"} {
					of(t, x, p, newModel(int64(shards)).of(p))
				}
			}
		}
	}
}

// P16.1: a Top that is moved to the shard that it has is moved, too.
func TestMoveToItsOwn(t *testing.T) {
	x := fresh(t, 2)
	moves(t, x, "a", 1, api.OK, 2)
	moves(t, x, "a", 1, api.OK, 3)
	of(t, x, "/a", 1)
	if got, want := x.Put(), append(numbers(2, 3, 1), entry("a", 1)...); string(got) != string(want) {
		t.Errorf("Put: %x, want %x", got, want)
	}
}

// P16.1: Move refuses what is no name, or no shard; nothing changes.
func TestMoveRefuses(t *testing.T) {
	for shards := 1; shards <= 4; shards++ {
		x := fresh(t, shards)
		moves(t, x, "a", shards-1, api.OK, 2)
		before := x.Put()
		for _, top := range noNames() {
			for shard := range shards {
				moves(t, x, top, shard, api.EARG, 2)
			}
			moves(t, x, top, -1, api.EARG, 2)
			moves(t, x, top, shards, api.EARG, 2)
		}
		for _, shard := range noShards(shards) {
			moves(t, x, "a", shard, api.EARG, 2)
			moves(t, x, "new", shard, api.EARG, 2)
		}
		if string(x.Put()) != string(before) {
			t.Errorf("of %d shards: what was refused has changed something", shards)
		}
		of(t, x, "/a", shards-1)
	}
}

// P16.1: Move takes every name and every shard.
func TestMoveTakes(t *testing.T) {
	for shards := 1; shards <= 4; shards++ {
		x := fresh(t, shards)
		version := int64(1)
		for _, top := range names() {
			for shard := range shards {
				version++
				moves(t, x, top, shard, api.OK, version)
				of(t, x, "/"+top, shard)
				of(t, x, "/"+top+"/k", shard)
			}
		}
	}
}

// P16.1: 50 may be moved; one more is ELIMIT, and behind a text that is no name, or no shard, EARG; one of the 50 may be
// moved again.
func TestMoveLimit(t *testing.T) {
	x := fresh(t, 3)
	for i := range 50 {
		moves(t, x, fmt.Sprint("n", i), i%3, api.OK, int64(i+2))
	}
	before := x.Put()
	for _, top := range []string{"more", "n50", "n", "a", "~", strings.Repeat("x", 40)} {
		moves(t, x, top, 0, api.ELIMIT, 51)
		moves(t, x, top, 2, api.ELIMIT, 51)
		moves(t, x, top, 3, api.EARG, 51)
		moves(t, x, top, -1, api.EARG, 51)
	}
	for _, top := range noNames() {
		moves(t, x, top, 0, api.EARG, 51)
	}
	if string(x.Put()) != string(before) {
		t.Error("what was refused has changed something")
	}
	of(t, x, "/more", newModel(3).of("/more"))
	for i := range 50 {
		of(t, x, fmt.Sprint("/n", i), i%3)
	}
	for i := range 50 {
		top := fmt.Sprint("n", i)
		moves(t, x, top, 3, api.EARG, int64(51+i))
		moves(t, x, top, (i+1)%3, api.OK, int64(52+i))
	}
	moves(t, x, "more", 0, api.ELIMIT, 101)
	for i := range 50 {
		of(t, x, fmt.Sprint("/n", i), (i+1)%3)
	}
}

// P16.1: in which order they are moved, nobody can tell but by the version.
func TestMoveOrder(t *testing.T) {
	tops := []string{"b", "a", "ab", "B", "~", "!", "aa", "a!"}
	x, y := fresh(t, 4), fresh(t, 4)
	for i, top := range tops {
		moves(t, x, top, i%4, api.OK, int64(i+2))
	}
	for n := range tops {
		i := len(tops) - 1 - n
		moves(t, y, tops[i], i%4, api.OK, int64(n+2))
	}
	if string(x.Put()) != string(y.Put()) {
		t.Errorf("%x, and %x", x.Put(), y.Put())
	}
}

// P16.1: Split: as many lists as there are shards, the places rising, what is no path in none.
func TestSplit(t *testing.T) {
	for shards, want := range []string{1: "[[0 1 3 4 6 7 8]]", 2: "[[3 6] [0 1 4 7 8]]", 3: "[[4 6] [0 1 7 8] [3]]", 4: "[[3] [0 1 7 8] [6] [4]]"} {
		if shards == 0 {
			continue
		}
		x := fresh(t, shards)
		list := ops("/a", "/a/b", "a", "/h", "/c/a", "", "/f", "/a", "/m/h", "/a/")
		if got := fmt.Sprint(x.Split(list...)); got != want {
			t.Errorf("of %d shards: %s, want %s", shards, got, want)
		}
		empty := strings.TrimSpace(strings.Repeat("[] ", shards))
		for _, none := range [][]api.Op{nil, {}, ops("", "/", "a", "/a/", "/\x80"), {{}}} {
			if got := fmt.Sprint(x.Split(none...)); got != "["+empty+"]" || len(x.Split(none...)) != shards {
				t.Errorf("of %d shards: %s of %d that are none", shards, got, len(none))
			}
		}
		if got := len(x.Split()); got != shards {
			t.Errorf("of %d shards: %d lists of no Op at all", shards, got)
		}
	}
}

// P16.1: Split goes by where the Tops are, before and behind a Move.
func TestSplitMoved(t *testing.T) {
	x := fresh(t, 3)
	list := ops("/a", "/b", "/c", "/a/k", "a", "/b/k", "/a")
	for _, c := range []struct {
		top   string
		shard int
		want  string
	}{
		{"other", 2, "[[2] [0 3 6] [1 5]]"}, {"a", 2, "[[2] [] [0 1 3 5 6]]"}, {"b", 1, "[[2] [1 5] [0 3 6]]"},
		{"a", 0, "[[0 2 3 6] [1 5] []]"}, {"c", 0, "[[0 2 3 6] [1 5] []]"}, {"b", 0, "[[0 1 2 3 5 6] [] []]"},
	} {
		if e := x.Move(c.top, c.shard); e != api.OK {
			t.Fatalf("Move(%q, %d): %d", c.top, c.shard, e)
		}
		if got := fmt.Sprint(x.Split(list...)); got != c.want {
			t.Errorf("behind Move(%q, %d): %s, want %s", c.top, c.shard, got, c.want)
		}
	}
}

// P16.1: Split asks for the Path alone, and for how many there are in no way.
func TestSplitOps(t *testing.T) {
	x := fresh(t, 2)
	for kind := -1; kind <= 9; kind++ {
		op := api.Op{Kind: kind, Path: "/a/b", Data: strings.Repeat("x", 2000), Version: math.MinInt, Flags: math.MaxInt}
		if got := fmt.Sprint(x.Split(op, op)); got != "[[] [0 1]]" {
			t.Errorf("Kind %d: %s", kind, got)
		}
	}
	got := x.Split(slices.Repeat(ops("/a", "/b", "none"), 1000)...)
	for i := range 1000 {
		if got[1][i] != 3*i || got[0][i] != 3*i+1 {
			t.Fatalf("of 3000: %d and %d at %d", got[0][i], got[1][i], i)
		}
	}
	if len(got) != 2 || len(got[0]) != 1000 || len(got[1]) != 1000 {
		t.Errorf("of 3000: %d lists, %d and %d", len(got), len(got[0]), len(got[1]))
	}
}

// R3: none of those that only tell changes anything.
func TestTellersChangeNothing(t *testing.T) {
	x := fresh(t, 2)
	moves(t, x, "a", 0, api.OK, 2)
	before := x.Put()
	x.Of("/a")
	x.Of("/b")
	x.Of("none")
	x.Split(ops("/a", "/b", "none")...)
	x.Shards()
	x.Version()
	if string(x.Put()) != string(before) || string(x.Put()) != string(before) {
		t.Error("one that tells has changed something")
	}
}

// P16.2: Put: the bytes one by one, written out here.
func TestPutBytes(t *testing.T) {
	const nought = "\x00\x00\x00\x00\x00\x00\x00\x00"
	n := func(v byte) string { return nought[:7] + string([]byte{v}) }
	x := fresh(t, 4)
	holdBytes(t, "none", x, n(4)+n(1)+nought)
	moves(t, x, "b", 3, api.OK, 2)
	holdBytes(t, "one", x, n(4)+n(2)+n(1)+n(1)+"b"+n(3))
	moves(t, x, "a~", 0, api.OK, 3)
	moves(t, x, "B", 1, api.OK, 4)
	holdBytes(t, "three", x, n(4)+n(4)+n(3)+n(1)+"B"+n(1)+n(2)+"a~"+nought+n(1)+"b"+n(3))
	moves(t, x, "b", 2, api.OK, 5)
	moves(t, x, "a", 1, api.OK, 6)
	holdBytes(t, "four", x, n(4)+n(6)+n(4)+n(1)+"B"+n(1)+n(1)+"a"+n(1)+n(2)+"a~"+nought+n(1)+"b"+n(2))
	for range 250 {
		x.Move("b", 0)
	}
	holdBytes(t, "often", x, n(4)+nought[:6]+"\x01\x00"+n(4)+n(1)+"B"+n(1)+n(1)+"a"+n(1)+n(2)+"a~"+nought+n(1)+"b"+nought)
	long := strings.Repeat("z", 40)
	x = fresh(t, 1)
	moves(t, x, long, 0, api.OK, 2)
	holdBytes(t, "the longest", x, n(1)+n(2)+n(1)+n(40)+long+nought)
}

func holdBytes(t *testing.T, what string, x *Table, want string) {
	t.Helper()
	for range 2 {
		if b := x.Put(); string(b) != want {
			t.Errorf("%s: %x\nwant %x", what, b, want)
		}
	}
	if e := holdGet(t, what, []byte(want)); e != api.OK {
		t.Errorf("%s: Get: %d", what, e)
	}
}

// R4: what Split and Put answer is new memory, spare room too, and no two lists share any.
func TestNewMemory(t *testing.T) {
	x := fresh(t, 3)
	moves(t, x, "a", 2, api.OK, 2)
	moves(t, x, "b", 0, api.OK, 3)
	list := ops("/a", "/b", "/d", "/a", "/b", "/d/d", "/a/b")
	want, split := x.Put(), fmt.Sprint(x.Split(list...))
	if split != "[[1 4] [2 5] [0 3 6]]" {
		t.Fatalf("Split: %s", split)
	}
	for shard := range 3 {
		first, b := x.Split(list...), x.Put()
		kept := fmt.Sprint(first[(shard+1)%3], first[(shard+2)%3])
		spoil(first[shard])
		spoilBytes(b)
		if got := fmt.Sprint(first[(shard+1)%3], first[(shard+2)%3]); got != kept {
			t.Errorf("two lists of one answer share: %s, not %s", got, kept)
		}
		lists := first[:cap(first)]
		for i := range lists {
			lists[i] = []int{-9}
		}
		if got := fmt.Sprint(x.Split(list...)); got != split || string(x.Put()) != string(want) {
			t.Errorf("who writes to an answer writes to what is kept: %s, %x", got, x.Put())
		}
	}
	first, b := x.Split(list...), x.Put()
	moves(t, x, "a", 0, api.OK, 4)
	moves(t, x, "B", 0, api.OK, 5)
	x.Split(ops("/d", "/d", "/d")...)
	x.Put()
	if fmt.Sprint(first) != split || string(b) != string(want) {
		t.Errorf("what was answered has changed: %v, %x", first, b)
	}
}

func spoil(list []int) {
	for i := range list[:cap(list)] {
		list[:cap(list)][i] = -9
	}
}

func spoilBytes(b []byte) {
	for i := range b[:cap(b)] {
		b[:cap(b)][i] = 0xee
	}
}

// R4: Split changes nothing of what it is handed, spare room included, and keeps nothing of it.
func TestSplitLeavesItsList(t *testing.T) {
	x := fresh(t, 2)
	list := ops("/a", "none", "/b", "/spare", "/room")
	before := slices.Clone(list)
	got := x.Split(list[:3]...)
	if !slices.Equal(list, before) {
		t.Errorf("what was handed in has changed: %v", list)
	}
	clear(list)
	if fmt.Sprint(got) != "[[2] [0]]" || fmt.Sprint(x.Split(before[:3]...)) != "[[2] [0]]" {
		t.Errorf("Split hangs on what it was handed earlier: %v", got)
	}
}
