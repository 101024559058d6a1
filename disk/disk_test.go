package disk

import (
	"bytes"
	"fmt"
	"math"
	"math/rand"
	"slices"
	"strings"
	"testing"
	"unsafe"

	"aviary/api"
)

// fill makes a text of n bytes.
func fill(n int) string { return strings.Repeat("x", n) }

// made makes an empty disk.
func made(t testing.TB, room int) *Disk {
	t.Helper()
	d, e := New(room)
	if e != api.OK || d == nil {
		t.Fatalf("New(%d): %d", room, e)
	}
	return d
}

// must stops a test at a call that was to be answered OK.
func must(t testing.TB, list ...api.Errno) {
	t.Helper()
	for i, e := range list {
		if e != api.OK {
			t.Fatalf("number %d: %d, want OK", i, e)
		}
	}
}

// put appends a text and syncs it.
func put(t testing.TB, d *Disk, name, s string) {
	t.Helper()
	must(t, d.Append(name, []byte(s)), d.Sync(name))
}

// told tells all that a disk with power tells, in one text.
func told(d *Disk) string {
	s := fmt.Sprint(d.Power(), d.Size())
	for _, name := range d.Names() {
		b, e := d.Read(name)
		s += fmt.Sprintf(" %s=%s", name, b)
		if e != api.OK {
			s += fmt.Sprint("!", int(e))
		}
	}
	return s
}

// crashed lets the power go and come, and tells what is left.
func crashed(d *Disk, keep int) string {
	d.Crash(keep)
	d.On()
	return told(d)
}

// want holds what a disk tells against a text.
func want(t testing.TB, d *Disk, text string) {
	t.Helper()
	if s := told(d); s != text {
		t.Fatalf("told %q, want %q", s, text)
	}
}

// wantSafe holds what is left behind a Crash(0) and an On against a text.
func wantSafe(t testing.TB, d *Disk, text string) {
	t.Helper()
	if s := crashed(d, 0); s != text {
		t.Fatalf("safe is %q, want %q", s, text)
	}
}

// calls are those that ask for a name, each with the rest of its arguments such that nothing else is wrong.
func calls() map[string]func(d *Disk, name string) api.Errno {
	return map[string]func(d *Disk, name string) api.Errno{
		"Append": func(d *Disk, name string) api.Errno { return d.Append(name, []byte("x")) },
		"Sync":   (*Disk).Sync,
		"Read": func(d *Disk, name string) api.Errno {
			b, e := d.Read(name)
			if e != api.OK && len(b) != 0 {
				return -1
			}
			return e
		},
		"Cut":        func(d *Disk, name string) api.Errno { return d.Cut(name, 0) },
		"Rename":     func(d *Disk, name string) api.Errno { return d.Rename(name, "other") },
		"Rename, to": func(d *Disk, name string) api.Errno { return d.Rename("a", name) },
		"Drop":       (*Disk).Drop,
	}
}

// P7.1: New: which rooms may be.
func TestRooms(t *testing.T) {
	for _, room := range []int{64, 65, 1000, 1<<20 - 1, 1 << 20} {
		d, e := New(room)
		if e != api.OK || d == nil {
			t.Errorf("New(%d): %v, %d", room, d, e)
			continue
		}
		if !d.Power() || d.Lives() != 1 || d.Size() != 0 || len(d.Names()) != 0 {
			t.Errorf("New(%d): not empty, or without power", room)
		}
	}
	for _, room := range []int{63, 1<<20 + 1, 0, 1, -1, -64, -1 << 20, math.MinInt, math.MaxInt, math.MinInt32, math.MaxInt32} {
		if d, e := New(room); d != nil || e != api.EARG {
			t.Errorf("New(%d): %v, %d, want EARG", room, d, e)
		}
	}
}

// P7.1: two disks have nothing to do with each other.
func TestDisksAreApart(t *testing.T) {
	a, b := made(t, 64), made(t, 64)
	put(t, a, "a", "one")
	a.Crash(0)
	want(t, b, "true 0")
	if b.Lives() != 1 || !b.Power() || b.Append("a", []byte(fill(64))) != api.OK {
		t.Errorf("one disk tells of another")
	}
}

// P7.1: names are of 1 to 20 bytes, each from 33 to 126, for each call.
func TestNames(t *testing.T) {
	for name, call := range calls() {
		for _, good := range []string{"b", "!", "~", "a/b", fill(19), fill(20), strings.Repeat("!", 20), strings.Repeat("~", 20), "\"\\`"} {
			d := made(t, 100)
			put(t, d, "a", "1")
			put(t, d, good, "2")
			if e := call(d, good); e != api.OK {
				t.Errorf("%s of %q: %d", name, good, e)
			}
		}
		bad := []string{"", fill(21), fill(1000), " ", "a ", " a", "a b", "\x7f", "a\x7f", "\x7fa", "\x00", "\n", "é", "a\x80", "\xff", fill(20) + " ", strings.Repeat("é", 10)}
		for _, none := range bad {
			d := made(t, 100)
			put(t, d, "a", "1")
			if e := call(d, none); e != api.EARG {
				t.Errorf("%s of %q: %d, want EARG", name, none, e)
			}
			want(t, d, "true 1 a=1")
		}
	}
}

// P7.1: every byte there is, alone, first, in the middle and last.
func TestBytesOfNames(t *testing.T) {
	for c := range 256 {
		one := string([]byte{byte(c)})
		for _, name := range []string{one, one + "a", "a" + one, "a" + one + "b", fill(19) + one, one + fill(19)} {
			e := made(t, 64).Append(name, nil)
			if may := c >= 33 && c <= 126; may != (e == api.OK) || !may && e != api.EARG {
				t.Errorf("Append to %q: %d", name, e)
			}
		}
	}
}

// P7.1: of a file that is not there: ENONE, and Append makes it.
func TestNoFile(t *testing.T) {
	for name, call := range calls() {
		d := made(t, 64)
		e, no := call(d, "b"), api.ENONE
		if name == "Append" {
			no = api.OK
		}
		if e != no {
			t.Errorf("%s of no file: %d, want %d", name, e, no)
		}
		if name != "Append" {
			want(t, d, "true 0")
		}
	}
}

// P7.1: without power each answers EOFF, nothing, 0: whatever else is wrong; and nothing is changed.
func TestNoPower(t *testing.T) {
	for name, call := range calls() {
		for _, of := range []string{"a", "b", "", "a b", fill(21)} {
			d := made(t, 64)
			put(t, d, "a", "one")
			d.Crash(0)
			if e := call(d, of); e != api.EOFF {
				t.Errorf("%s of %q without power: %d, want EOFF", name, of, e)
			}
			if b, e := d.Read(of); len(b) != 0 || e != api.EOFF {
				t.Errorf("Read of %q without power: %q, %d", of, b, e)
			}
			if len(d.Names()) != 0 || d.Size() != 0 || d.Power() {
				t.Errorf("without power: %q, %d, %v", d.Names(), d.Size(), d.Power())
			}
			d.On()
			want(t, d, "true 3 a=one")
		}
	}
}

// P7.1, R6: which error is told, where several could be.
func TestOrderOfErrors(t *testing.T) {
	great := []byte(fill(65))
	list := []struct {
		name string
		call func(d *Disk) api.Errno
		want api.Errno
		off  bool
	}{
		{"Append, bad name, too much", func(d *Disk) api.Errno { return d.Append("", great) }, api.EARG, false},
		{"Append, no file, too much", func(d *Disk) api.Errno { return d.Append("c", great) }, api.EFULL, false},
		{"Append, off, too much", func(d *Disk) api.Errno { return d.Append("a", great) }, api.EOFF, true},
		{"Append, off, bad name, too much", func(d *Disk) api.Errno { return d.Append("", great) }, api.EOFF, true},
		{"Cut, bad name, bad n", func(d *Disk) api.Errno { return d.Cut("", -1) }, api.EARG, false},
		{"Cut, no file, n below 0", func(d *Disk) api.Errno { return d.Cut("c", -1) }, api.ENONE, false},
		{"Cut, no file, n above all", func(d *Disk) api.Errno { return d.Cut("c", 1) }, api.ENONE, false},
		{"Cut, off, bad n", func(d *Disk) api.Errno { return d.Cut("a", -1) }, api.EOFF, true},
		{"Cut, off, no file, bad n", func(d *Disk) api.Errno { return d.Cut("c", -1) }, api.EOFF, true},
		{"Rename, both bad", func(d *Disk) api.Errno { return d.Rename("", "a b") }, api.EARG, false},
		{"Rename, no file, bad name", func(d *Disk) api.Errno { return d.Rename("c", "") }, api.EARG, false},
		{"Rename, bad old, a file", func(d *Disk) api.Errno { return d.Rename("", "a") }, api.EARG, false},
		{"Rename, bad old, no file", func(d *Disk) api.Errno { return d.Rename(" ", "c") }, api.EARG, false},
		{"Rename, bad over itself", func(d *Disk) api.Errno { return d.Rename("", "") }, api.EARG, false},
		{"Rename, none over itself", func(d *Disk) api.Errno { return d.Rename("c", "c") }, api.ENONE, false},
		{"Rename, none over a file", func(d *Disk) api.Errno { return d.Rename("c", "a") }, api.ENONE, false},
		{"Rename, off, bad name", func(d *Disk) api.Errno { return d.Rename("a", "") }, api.EOFF, true},
		{"Rename, off, bad old", func(d *Disk) api.Errno { return d.Rename("", "a") }, api.EOFF, true},
		{"Rename, off, over itself", func(d *Disk) api.Errno { return d.Rename("a", "a") }, api.EOFF, true},
		{"Rename, off, no file", func(d *Disk) api.Errno { return d.Rename("c", "d") }, api.EOFF, true},
	}
	for _, c := range list {
		d := made(t, 64)
		put(t, d, "a", "one")
		put(t, d, "b", "two")
		if c.off {
			d.Crash(0)
		}
		if e := c.call(d); e != c.want {
			t.Errorf("%s: %d, want %d", c.name, e, c.want)
		}
		if c.off {
			d.On()
		}
		want(t, d, "true 6 a=one b=two")
	}
}

// P7.1: Append: b behind the file.
func TestAppend(t *testing.T) {
	d := made(t, 64)
	must(t, d.Append("a", []byte("xy")), d.Append("b", []byte("1")), d.Append("a", []byte("z")), d.Append("a", nil), d.Append("b", []byte{}))
	want(t, d, "true 4 a=xyz b=1")
	must(t, d.Append("c", []byte("\x00\xff\n")))
	if b, e := d.Read("c"); string(b) != "\x00\xff\n" || e != api.OK {
		t.Errorf("read %q, %d", b, e)
	}
}

// P7.1: Append: as much as there is room for, over one file and over several; one byte more changes nothing.
func TestRoom(t *testing.T) {
	for _, room := range []int{64, 65, 1000, 1 << 20} {
		one := made(t, room)
		if e := one.Append("a", make([]byte, room+1)); e != api.EFULL || len(one.Names()) != 0 {
			t.Errorf("room %d, one more at once: %d, %q", room, e, one.Names())
		}
		must(t, one.Append("a", make([]byte, room)))
		if e := one.Append("a", []byte("x")); e != api.EFULL || one.Size() != room {
			t.Errorf("room %d, one more: %d, %d", room, e, one.Size())
		}
		if e := one.Append("b", []byte("x")); e != api.EFULL || len(one.Names()) != 1 {
			t.Errorf("room %d, one more, of another: %d, %q", room, e, one.Names())
		}
		must(t, one.Append("a", nil), one.Append("b", nil))
		some := made(t, room)
		must(t, some.Append("a", make([]byte, room-9)), some.Append("b", make([]byte, 4)), some.Append("c", make([]byte, 3)))
		for _, name := range []string{"a", "b", "c", "d"} {
			if e := some.Append(name, make([]byte, 3)); e != api.EFULL {
				t.Errorf("room %d, one more over several: %d", room, e)
			}
		}
		if some.Size() != room-2 || len(some.Names()) != 3 {
			t.Errorf("room %d: %d, %q", room, some.Size(), some.Names())
		}
		must(t, some.Append("d", make([]byte, 2)))
		if some.Size() != room || some.Append("d", []byte("x")) != api.EFULL {
			t.Errorf("room %d: not full", room)
		}
	}
}

// P7.1: Append: what does not fit is not there in part either, and is not safe behind a Sync.
func TestTooMuch(t *testing.T) {
	d := made(t, 64)
	put(t, d, "a", "abc")
	must(t, d.Append("a", []byte("de")))
	for _, name := range []string{"a", "b"} {
		if e := d.Append(name, []byte(fill(60))); e != api.EFULL {
			t.Fatalf("%d, want EFULL", e)
		}
	}
	want(t, d, "true 5 a=abcde")
	wantSafe(t, d, "true 3 a=abc")
	if e := d.Append("b", make([]byte, 1<<21)); e != api.EFULL {
		t.Errorf("far too much: %d", e)
	}
	wantSafe(t, d, "true 3 a=abc")
}

// P7.1: room that was taken is there again behind Cut, Drop, Rename over a file, and Crash.
func TestRoomComesBack(t *testing.T) {
	ways := map[string]func(d *Disk){
		"Cut":         func(d *Disk) { must(t, d.Cut("a", 20)) },
		"Drop":        func(d *Disk) { must(t, d.Drop("b")) },
		"Rename over": func(d *Disk) { must(t, d.Rename("b", "c")) },
		"Crash":       func(d *Disk) { crashed(d, 5) },
	}
	left := map[string]int{"Cut": 52, "Drop": 44, "Rename over": 52, "Crash": 5 + 20 + 5}
	for name, way := range ways {
		d := made(t, 64)
		must(t, d.Append("a", []byte(fill(32))), d.Append("b", []byte(fill(20))), d.Sync("b"), d.Append("c", []byte(fill(12))))
		if d.Size() != 64 || d.Append("a", []byte("x")) != api.EFULL {
			t.Fatalf("%s: not full", name)
		}
		way(d)
		if d.Size() != left[name] {
			t.Errorf("%s: %d bytes, want %d", name, d.Size(), left[name])
		}
		if e := d.Append("d", make([]byte, 65-left[name])); e != api.EFULL {
			t.Errorf("%s: one byte too many: %d", name, e)
		}
		must(t, d.Append("d", make([]byte, 64-left[name])))
	}
}

// P7.1: a Rename to a name that is free, or over itself, and a Sync give and take no room.
func TestRoomStays(t *testing.T) {
	d := made(t, 64)
	must(t, d.Append("a", []byte(fill(60))), d.Rename("a", "b"), d.Rename("b", "b"), d.Sync("b"))
	if d.Size() != 60 || d.Append("b", []byte("12345")) != api.EFULL || d.Append("b", []byte("1234")) != api.OK {
		t.Errorf("%d bytes", d.Size())
	}
}

// P7.1: a file that was made is there at once, its bytes when they are synced.
func TestFileIsThereAtOnce(t *testing.T) {
	d := made(t, 64)
	must(t, d.Append("a", nil), d.Append("b", []byte{}), d.Append("c", []byte("xyz")))
	want(t, d, "true 3 a= b= c=xyz")
	wantSafe(t, d, "true 0 a= b= c=")
	must(t, d.Sync("a"), d.Cut("a", 0), d.Append("a", []byte("q")))
	want(t, d, "true 1 a=q b= c=")
}

// P7.1: Sync: all its bytes are safe, and no other file's.
func TestSync(t *testing.T) {
	d := made(t, 64)
	must(t, d.Append("a", []byte("one")), d.Append("b", []byte("two")), d.Sync("a"))
	want(t, d, "true 6 a=one b=two")
	wantSafe(t, d, "true 3 a=one b=")
	must(t, d.Append("a", []byte("+")), d.Sync("a"), d.Sync("a"), d.Append("a", []byte("-")))
	want(t, d, "true 5 a=one+- b=")
	wantSafe(t, d, "true 4 a=one+ b=")
	must(t, d.Append("b", []byte("x")), d.Sync("b"))
	wantSafe(t, d, "true 5 a=one+ b=x")
}

// P7.1: Cut: the first n stay, of which those that were safe are safe.
func TestCut(t *testing.T) {
	list := []struct {
		n          int
		want       api.Errno
		told, safe string
	}{
		{math.MinInt, api.EARG, "true 6 a=abcdef", "true 4 a=abcd"}, {-1, api.EARG, "true 6 a=abcdef", "true 4 a=abcd"},
		{0, api.OK, "true 0 a=", "true 0 a="}, {1, api.OK, "true 1 a=a", "true 1 a=a"}, {3, api.OK, "true 3 a=abc", "true 3 a=abc"},
		{4, api.OK, "true 4 a=abcd", "true 4 a=abcd"}, {5, api.OK, "true 5 a=abcde", "true 4 a=abcd"},
		{6, api.OK, "true 6 a=abcdef", "true 4 a=abcd"}, {7, api.EARG, "true 6 a=abcdef", "true 4 a=abcd"},
		{64, api.EARG, "true 6 a=abcdef", "true 4 a=abcd"}, {math.MaxInt, api.EARG, "true 6 a=abcdef", "true 4 a=abcd"},
	}
	for _, c := range list {
		d := made(t, 64)
		put(t, d, "a", "abcd")
		must(t, d.Append("a", []byte("ef")))
		if e := d.Cut("a", c.n); e != c.want {
			t.Errorf("Cut at %d: %d, want %d", c.n, e, c.want)
		}
		want(t, d, c.told)
		wantSafe(t, d, c.safe)
	}
}

// P7.1: behind a Cut, what is appended is not safe, though as many bytes were; nor does what was cut come back.
func TestBehindCut(t *testing.T) {
	d := made(t, 64)
	put(t, d, "a", "abcdef")
	must(t, d.Cut("a", 2), d.Append("a", []byte("XYZUVW")))
	want(t, d, "true 8 a=abXYZUVW")
	if e := d.Cut("a", 9); e != api.EARG {
		t.Errorf("Cut past the end: %d", e)
	}
	wantSafe(t, d, "true 2 a=ab")
	must(t, d.Append("a", []byte("12")), d.Cut("a", 3), d.Sync("a"))
	wantSafe(t, d, "true 3 a=ab1")
	must(t, d.Append("b", nil))
	if e := d.Cut("b", 1); e != api.EARG || d.Cut("b", 0) != api.OK {
		t.Errorf("Cut of an empty file: %d", e)
	}
	must(t, d.Cut("a", 0))
	want(t, d, "true 0 a= b=")
}

// P7.1: a great file that is cut to a few bytes has just these.
func TestCutOfMany(t *testing.T) {
	const many = 1 << 16
	whole := make([]byte, many)
	rand.New(rand.NewSource(1)).Read(whole)
	for _, n := range []int{0, 1, 100, many / 4, many/4 + 1, many / 2, many - 1, many} {
		d := made(t, 1<<20)
		must(t, d.Append("a", whole), d.Sync("a"), d.Cut("a", n))
		if b, e := d.Read("a"); e != api.OK || !bytes.Equal(b, whole[:n]) || d.Size() != n {
			t.Fatalf("cut to %d: %d bytes, %d, %d", n, len(b), e, d.Size())
		}
		must(t, d.Append("a", []byte("end")))
		d.Crash(1)
		d.On()
		if b, e := d.Read("a"); e != api.OK || string(b) != string(whole[:n])+"e" || d.Size() != n+1 {
			t.Fatalf("cut to %d, behind a crash: %d bytes, %d, %d", n, len(b), e, d.Size())
		}
	}
}

// LANGUAGE.md, 8: what is cut, dropped or lost is not held in memory.
func TestNothingIsKept(t *testing.T) {
	d := made(t, 1<<20)
	for _, name := range []string{"a", "b", "c"} {
		must(t, d.Append(name, make([]byte, 1<<18)))
	}
	c := d.files["c"]
	must(t, d.Cut("a", 10), d.Drop("c"))
	d.Crash(10)
	for name, f := range map[string]*file{"a": d.files["a"], "b": d.files["b"], "c": c} {
		if cap(f.bytes) > 1000 {
			t.Errorf("%s: %d bytes are held", name, cap(f.bytes))
		}
	}
}

// P7.1: Read: all bytes, synced or not.
func TestRead(t *testing.T) {
	d := made(t, 64)
	put(t, d, "a", "ab")
	must(t, d.Append("a", []byte("cd")), d.Append("b", nil))
	for range 2 {
		if b, e := d.Read("a"); string(b) != "abcd" || e != api.OK {
			t.Errorf("read %q, %d", b, e)
		}
	}
	if b, e := d.Read("b"); len(b) != 0 || e != api.OK {
		t.Errorf("read %q, %d of an empty file", b, e)
	}
	wantSafe(t, d, "true 2 a=ab b=")
}

// P7.1: Rename: to a name that is free; the old name is not there then.
func TestRename(t *testing.T) {
	d := made(t, 64)
	put(t, d, "m", "safe")
	must(t, d.Append("m", []byte("+more")), d.Rename("m", "n"))
	want(t, d, "true 9 n=safe+more")
	for name, call := range calls() {
		if name == "Append" || name == "Rename, to" {
			continue
		}
		if e := call(d, "m"); e != api.ENONE {
			t.Errorf("%s of the old name: %d, want ENONE", name, e)
		}
	}
	wantSafe(t, d, "true 4 n=safe")
	must(t, d.Append("m", []byte("new")))
	want(t, d, "true 7 m=new n=safe")
	must(t, d.Rename("m", "k"), d.Rename("n", "m"), d.Rename("k", "n"))
	want(t, d, "true 7 m=safe n=new")
	wantSafe(t, d, "true 4 m=safe n=")
}

// P7.1: Rename: over itself the file stays, with what is safe of it and no more.
func TestRenameOverItself(t *testing.T) {
	d := made(t, 64)
	put(t, d, "a", "ab")
	must(t, d.Append("a", []byte("cd")), d.Rename("a", "a"))
	want(t, d, "true 4 a=abcd")
	wantSafe(t, d, "true 2 a=ab")
}

// P7.1: Rename: over another file, whole: nothing of that one is left, be it longer or shorter, safe or not.
func TestRenameOver(t *testing.T) {
	for _, other := range []string{"", "x", "longer than the one that comes"} {
		for _, sync := range []bool{false, true} {
			d := made(t, 64)
			put(t, d, "a", "ab")
			must(t, d.Append("a", []byte("cd")), d.Append("b", []byte(other)))
			if sync {
				must(t, d.Sync("b"))
			}
			must(t, d.Rename("a", "b"))
			want(t, d, "true 4 b=abcd")
			wantSafe(t, d, "true 2 b=ab")
		}
	}
	d := made(t, 64)
	must(t, d.Append("a", []byte("new")))
	put(t, d, "b", "old one")
	must(t, d.Rename("a", "b"))
	want(t, d, "true 3 b=new")
	wantSafe(t, d, "true 0 b=")
}

// P7.1: Rename is there at once: a crash does not bring the old name back.
func TestRenameStays(t *testing.T) {
	for _, keep := range []int{-1, 0, 1, 9} {
		d := made(t, 64)
		put(t, d, "a", "one")
		put(t, d, "b", "two")
		must(t, d.Rename("a", "b"), d.Rename("b", "c"))
		if s := crashed(d, keep); s != "true 3 c=one" {
			t.Errorf("Crash(%d): %q", keep, s)
		}
	}
}

// P7.1: Drop: it goes, at once; made anew, it has nothing of before.
func TestDrop(t *testing.T) {
	for _, keep := range []int{-1, 0, 1, 9} {
		d := made(t, 64)
		put(t, d, "a", "one")
		put(t, d, "b", "two")
		must(t, d.Append("c", []byte("three")), d.Drop("a"), d.Drop("c"))
		want(t, d, "true 3 b=two")
		if d.Drop("a") != api.ENONE || d.Drop("c") != api.ENONE {
			t.Errorf("a dropped file is there")
		}
		if s := crashed(d, keep); s != "true 3 b=two" {
			t.Errorf("Crash(%d): %q", keep, s)
		}
		must(t, d.Append("a", []byte("12345")))
		want(t, d, "true 8 a=12345 b=two")
		wantSafe(t, d, "true 3 a= b=two")
	}
}

// P7.1, R7: Names: rising, by bytes.
func TestNamesRise(t *testing.T) {
	d := made(t, 64)
	for _, name := range []string{"b", "~", "a", "B", "ab", "!", "aa", "a!", "10", "9", fill(20)} {
		must(t, d.Append(name, nil))
	}
	hold := func(want ...string) {
		t.Helper()
		if got := d.Names(); !slices.Equal(got, want) {
			t.Errorf("%q, want %q", got, want)
		}
	}
	hold("!", "10", "9", "B", "a", "a!", "aa", "ab", "b", fill(20), "~")
	must(t, d.Rename("!", "}"), d.Rename("~", "#"), d.Rename("a", "zz"), d.Rename("10", "9"))
	hold("#", "9", "B", "a!", "aa", "ab", "b", fill(20), "zz", "}")
	must(t, d.Drop("#"), d.Drop("}"), d.Drop("ab"))
	hold("9", "B", "a!", "aa", "b", fill(20), "zz")
	must(t, d.Append("A", nil), d.Append("aa", nil))
	hold("9", "A", "B", "a!", "aa", "b", fill(20), "zz")
	d.Crash(0)
	hold()
	d.On()
	hold("9", "A", "B", "a!", "aa", "b", fill(20), "zz")
}

// P7.1: Size: of all files, behind each call that changes it, and behind those that do not.
func TestSize(t *testing.T) {
	d := made(t, 64)
	steps := []struct {
		name string
		do   func() api.Errno
		size int
	}{
		{"Append", func() api.Errno { return d.Append("a", []byte("12345")) }, 5},
		{"Append to another", func() api.Errno { return d.Append("b", []byte("123")) }, 8},
		{"Append of nothing", func() api.Errno { return d.Append("c", nil) }, 8},
		{"Append once more", func() api.Errno { return d.Append("a", []byte("67")) }, 10},
		{"Sync", func() api.Errno { return d.Sync("a") }, 10},
		{"Read", func() api.Errno { _, e := d.Read("a"); return e }, 10},
		{"Cut", func() api.Errno { return d.Cut("a", 4) }, 7},
		{"Cut at all", func() api.Errno { return d.Cut("a", 4) }, 7},
		{"Rename", func() api.Errno { return d.Rename("a", "d") }, 7},
		{"Rename over itself", func() api.Errno { return d.Rename("d", "d") }, 7},
		{"Rename over another", func() api.Errno { return d.Rename("b", "c") }, 7},
		{"Rename over one with bytes", func() api.Errno { return d.Rename("d", "c") }, 4},
		{"Append behind that", func() api.Errno { return d.Append("c", []byte("xyz")) }, 7},
		{"Crash", func() api.Errno { d.Crash(1); d.On(); return api.OK }, 5},
		{"On", func() api.Errno { d.On(); return api.OK }, 5},
		{"Append behind a crash", func() api.Errno { return d.Append("e", []byte("xy")) }, 7},
		{"Drop", func() api.Errno { return d.Drop("c") }, 2},
		{"Cut at 0", func() api.Errno { return d.Cut("e", 0) }, 0},
	}
	for _, s := range steps {
		if e := s.do(); e != api.OK || d.Size() != s.size {
			t.Fatalf("%s: %d, of %d bytes, want %d", s.name, e, d.Size(), s.size)
		}
	}
}

// P7.2, and the chapter's example: Crash: what is kept of what was not synced.
func TestCrash(t *testing.T) {
	d := made(t, 64)
	must(t, d.Append("a", []byte("xy")))
	d.Crash(1)
	d.On()
	if b, e := d.Read("a"); string(b) != "x" || e != api.OK {
		t.Errorf("the example: %q, %d", b, e)
	}
	list := map[int]string{
		math.MinInt: "true 5 a=abc b= c= d=12", -2: "true 5 a=abc b= c= d=12", -1: "true 5 a=abc b= c= d=12", 0: "true 5 a=abc b= c= d=12",
		1: "true 7 a=abcd b=x c= d=12", 2: "true 9 a=abcde b=xy c= d=12", 3: "true 10 a=abcde b=xyz c= d=12",
		4: "true 10 a=abcde b=xyz c= d=12", 1 << 20: "true 10 a=abcde b=xyz c= d=12", math.MaxInt: "true 10 a=abcde b=xyz c= d=12",
	}
	for keep, left := range list {
		d := made(t, 64)
		put(t, d, "a", "abc")
		put(t, d, "d", "12")
		must(t, d.Append("a", []byte("de")), d.Append("b", []byte("xyz")), d.Append("c", nil))
		if s := crashed(d, keep); s != left {
			t.Errorf("Crash(%d): %q, want %q", keep, s, left)
		}
		// What was kept is safe then.
		wantSafe(t, d, left)
		must(t, d.Append("a", []byte("+")))
		wantSafe(t, d, left)
	}
}

// P7.2: a Crash without power takes and gives nothing; behind an On it does again.
func TestCrashTwice(t *testing.T) {
	for _, keeps := range [][]int{{0, 9}, {2, 0}, {2, 2}, {2, -1, 9}} {
		d := made(t, 64)
		put(t, d, "a", "ab")
		must(t, d.Append("a", []byte("cdef")))
		for _, keep := range keeps {
			d.Crash(keep)
		}
		if d.Power() || d.Lives() != 1 {
			t.Errorf("power %v, lives %d", d.Power(), d.Lives())
		}
		d.On()
		if b, e := d.Read("a"); e != api.OK || len(b) != 2+keeps[0] || string(b) != "abcdef"[:len(b)] {
			t.Errorf("Crash of %v: %q, %d", keeps, b, e)
		}
	}
}

// P7.2: On with the power on loses nothing and makes nothing safe.
func TestOnWithPower(t *testing.T) {
	d := made(t, 64)
	put(t, d, "a", "ab")
	must(t, d.Append("a", []byte("cd")))
	d.On()
	want(t, d, "true 4 a=abcd")
	wantSafe(t, d, "true 2 a=ab")
	if d.Lives() != 3 {
		t.Errorf("Lives %d, want 3", d.Lives())
	}
}

// P7.2: Power and Lives: each On counts, with the power on or not; nothing else does.
func TestLives(t *testing.T) {
	d := made(t, 64)
	hold := func(power bool, lives int) {
		t.Helper()
		if d.Power() != power || d.Lives() != lives {
			t.Errorf("power %v, lives %d, want %v, %d", d.Power(), d.Lives(), power, lives)
		}
	}
	hold(true, 1)
	d.Crash(0)
	hold(false, 1)
	d.Crash(3)
	hold(false, 1)
	d.On()
	hold(true, 2)
	d.On()
	d.On()
	hold(true, 4)
	put(t, d, "a", "x")
	must(t, d.Cut("a", 0), d.Rename("a", "b"), d.Drop("b"))
	hold(true, 4)
	d.Crash(0)
	hold(false, 4)
	d.On()
	hold(true, 5)
	for range 1000 {
		d.On()
	}
	hold(true, 1005)
}

// R4: bytes that are handed in are not changed, spare room included, and not kept.
func TestHandedIn(t *testing.T) {
	d := made(t, 1<<20)
	for _, n := range []int{0, 1, 7, 8, 9, 1000, 1 << 16} {
		spare := bytes.Repeat([]byte("s"), n+64)
		b := spare[:n]
		must(t, d.Append("a", b), d.Append("b", b), d.Append("a", []byte("tail")), d.Append("a", b), d.Sync("a"))
		if string(spare) != strings.Repeat("s", n+64) {
			t.Fatalf("%d bytes: what was handed in is changed", n)
		}
		clear(spare)
		part := strings.Repeat("s", n)
		if x, _ := d.Read("a"); string(x) != part+"tail"+part {
			t.Fatalf("%d bytes: what was handed in is kept", n)
		}
		if x, _ := d.Read("b"); string(x) != part {
			t.Fatalf("%d bytes: two files share memory", n)
		}
		must(t, d.Cut("a", n), d.Append("a", []byte("new")))
		if string(spare) != string(make([]byte, n+64)) {
			t.Fatalf("%d bytes: what was handed in is written to", n)
		}
		must(t, d.Drop("a"), d.Drop("b"))
	}
}

// LANGUAGE.md, 7: a name that is handed in is not kept.
func TestNamesAreOwn(t *testing.T) {
	d := made(t, 64)
	one, two := []byte("one"), []byte("two")
	put(t, d, unsafe.String(&one[0], len(one)), "1")
	put(t, d, "c", "2")
	must(t, d.Rename("c", unsafe.String(&two[0], len(two))))
	copy(one, "xxx")
	copy(two, "yyy")
	want(t, d, "true 2 one=1 two=2")
}

// R4: what is read or told is new memory, spare room too.
func TestAnswersAreNew(t *testing.T) {
	d := made(t, 1<<20)
	for _, n := range []int{1, 5, 8, 100, 5000} {
		whole := fill(n)
		must(t, d.Append("a", []byte(whole)), d.Append("b", []byte("b")))
		one, _ := d.Read("a")
		two, _ := d.Read("a")
		clear(one[:cap(one)])
		if string(two) != whole {
			t.Fatalf("%d bytes: two answers share memory", n)
		}
		must(t, d.Append("a", []byte("yy")))
		three, _ := d.Read("a")
		clear(two[:cap(two)])
		if x, _ := d.Read("a"); string(three) != whole+"yy" || string(x) != whole+"yy" {
			t.Fatalf("%d bytes: an answer shares memory with the disk", n)
		}
		must(t, d.Cut("a", 1), d.Append("a", []byte("zz")))
		if string(three) != whole+"yy" {
			t.Fatalf("%d bytes: an answer is changed later", n)
		}
		names := d.Names()
		clear(names[:cap(names)])
		if got := d.Names(); !slices.Equal(got, []string{"a", "b"}) {
			t.Fatalf("Names share memory: %q", got)
		}
		must(t, d.Drop("a"), d.Drop("b"))
	}
}

// R4: bytes that were read from one file may be appended to it.
func TestReadAndAppend(t *testing.T) {
	d := made(t, 64)
	put(t, d, "a", "ab")
	b, _ := d.Read("a")
	must(t, d.Append("a", b), d.Append("a", b[:1]))
	want(t, d, "true 5 a=ababa")
	if string(b) != "ab" {
		t.Errorf("what was read is changed: %q", b)
	}
}

// byteOf is a byte that knows whether it is safe.
type byteOf struct {
	b    byte
	safe bool
}

// model is a disk by the promises' words, byte by byte.
type model struct {
	room  int
	files map[string][]byteOf
	off   bool
	lives int
}

func (m *model) size() int {
	n := 0
	for _, f := range m.files {
		n += len(f)
	}
	return n
}

// check tells the error of a call of some names, of which the first is a file's, if there must be one.
func (m *model) check(there bool, names ...string) api.Errno {
	if m.off {
		return api.EOFF
	}
	for _, name := range names {
		if len(name) < 1 || len(name) > 20 || strings.IndexFunc(name, func(r rune) bool { return r < '!' || r > '~' }) >= 0 {
			return api.EARG
		}
	}
	if _, ok := m.files[names[0]]; there && !ok {
		return api.ENONE
	}
	return api.OK
}

func (m *model) add(name string, b []byte) api.Errno {
	if e := m.check(false, name); e != api.OK {
		return e
	}
	if m.size()+len(b) > m.room {
		return api.EFULL
	}
	f := slices.Clone(m.files[name])
	for _, c := range b {
		f = append(f, byteOf{b: c})
	}
	m.files[name] = f
	return api.OK
}

func (m *model) sync(name string) api.Errno {
	e := m.check(true, name)
	if e == api.OK {
		for i := range m.files[name] {
			m.files[name][i].safe = true
		}
	}
	return e
}

func (m *model) cut(name string, n int) api.Errno {
	if e := m.check(true, name); e != api.OK {
		return e
	}
	if n < 0 || n > len(m.files[name]) {
		return api.EARG
	}
	m.files[name] = slices.Clone(m.files[name][:n])
	return api.OK
}

func (m *model) rename(old, name string) api.Errno {
	e := m.check(true, old, name)
	if e == api.OK {
		f := m.files[old]
		delete(m.files, old)
		m.files[name] = f
	}
	return e
}

func (m *model) drop(name string) api.Errno {
	e := m.check(true, name)
	if e == api.OK {
		delete(m.files, name)
	}
	return e
}

func (m *model) crash(keep int) {
	m.off = true
	for name, f := range m.files {
		var left []byteOf
		kept := 0
		for _, c := range f {
			if !c.safe {
				if kept >= keep {
					break
				}
				kept++
			}
			left = append(left, byteOf{c.b, true})
		}
		m.files[name] = left
	}
}

// tell tells all of it, as told does of a disk.
func (m *model) tell() string {
	if m.off {
		return fmt.Sprint(false, 0)
	}
	s := fmt.Sprint(true, m.size())
	var names []string
	for name := range m.files {
		names = append(names, name)
	}
	slices.Sort(names)
	for _, name := range names {
		var b []byte
		for _, c := range m.files[name] {
			b = append(b, c.b)
		}
		s += fmt.Sprintf(" %s=%s", name, b)
	}
	return s
}

// play does one step, that three numbers tell, on a disk and on its model, and tells what each answered.
func play(d *Disk, m *model, kind, one, two byte) (api.Errno, api.Errno) {
	names := []string{"a", "b", "c", "dd", "", "e f"}
	name, other := names[int(one)%len(names)], names[int(two)%len(names)]
	n := int(two)%24 - 2
	switch kind % 8 {
	case 0, 1:
		b := bytes.Repeat([]byte{'A' + one%26}, int(two)%20)
		return d.Append(name, b), m.add(name, b)
	case 2:
		return d.Sync(name), m.sync(name)
	case 3:
		return d.Cut(name, n), m.cut(name, n)
	case 4:
		return d.Rename(name, other), m.rename(name, other)
	case 5:
		return d.Drop(name), m.drop(name)
	case 6:
		if one%3 > 0 { // less often: else there is little to lose
			return api.OK, api.OK
		}
		d.Crash(n)
		m.crash(n)
	case 7:
		d.On()
		m.off = false
		m.lives++
	}
	return api.OK, api.OK
}

// run plays a list of steps, and holds the disk against its model behind each.
func run(t *testing.T, steps []byte) {
	t.Helper()
	d, m := made(t, 64), &model{room: 64, files: map[string][]byteOf{}, lives: 1}
	for i := 0; i+2 < len(steps); i += 3 {
		got, want := play(d, m, steps[i], steps[i+1], steps[i+2])
		if got != want {
			t.Fatalf("step %d: %d, want %d", i/3, got, want)
		}
		if g, w := told(d), m.tell(); g != w || d.Lives() != m.lives || d.Power() == m.off {
			t.Fatalf("step %d: %q, lives %d, want %q, %d", i/3, g, d.Lives(), w, m.lives)
		}
	}
}

// P7.1, P7.2: long runs of all calls, against the model.
func TestRuns(t *testing.T) {
	for seed := range int64(300) {
		steps := make([]byte, 3*200)
		rand.New(rand.NewSource(seed)).Read(steps)
		run(t, steps)
	}
}

// P7.1, P7.2: any run of calls, against the model.
func FuzzRuns(f *testing.F) {
	f.Add([]byte{0, 0, 5, 2, 0, 0, 0, 0, 7, 6, 0, 5, 7, 0, 0, 4, 0, 1, 3, 1, 4})
	f.Add([]byte{0, 0, 19, 0, 1, 19, 0, 2, 19, 0, 3, 8, 5, 0, 0, 0, 3, 8})
	f.Fuzz(func(t *testing.T, steps []byte) { run(t, steps[:min(len(steps), 3000)]) })
}

// R1: no call panics and each ends, whatever it is given.
func FuzzAny(f *testing.F) {
	f.Add(64, "a", "b", []byte("x"), 1)
	f.Add(-1, "", "\xff", []byte{}, math.MinInt)
	f.Add(1<<20, fill(21), "a", []byte(fill(100)), math.MaxInt)
	f.Fuzz(func(t *testing.T, room int, one, two string, b []byte, n int) {
		d, e := New(room)
		if (d == nil) != (e != api.OK) || (e == api.OK) != (room >= 64 && room <= 1<<20) {
			t.Fatalf("New(%d): %v, %d", room, d, e)
		}
		if d == nil {
			return
		}
		m := &model{room: room, files: map[string][]byteOf{}, lives: 1}
		hold := func(got, want api.Errno) {
			t.Helper()
			if got != want || told(d) != m.tell() {
				t.Fatalf("%d, %q, want %d, %q", got, told(d), want, m.tell())
			}
		}
		hold(d.Append(one, b), m.add(one, b))
		hold(d.Sync(one), m.sync(one))
		hold(d.Append(one, b), m.add(one, b))
		hold(d.Append(two, b), m.add(two, b))
		hold(d.Cut(one, n), m.cut(one, n))
		d.Crash(n)
		m.crash(n)
		hold(d.Sync(two), m.sync(two))
		d.On()
		m.off = false
		hold(d.Rename(one, two), m.rename(one, two))
		hold(d.Drop(two), m.drop(two))
	})
}
