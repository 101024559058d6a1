package wal

import (
	"bytes"
	"fmt"
	"math"
	"math/rand"
	"slices"
	"strings"
	"testing"

	"aviary/api"
	"aviary/disk"
	"aviary/frame"
	"aviary/pack"
)

const (
	most = 20000   // bytes of a record
	top  = 1 << 40 // the greatest first number
)

// must stops a test at a call that was to be answered OK.
func must(t testing.TB, list ...api.Errno) {
	t.Helper()
	for i, e := range list {
		if e != api.OK {
			t.Fatalf("number %d: %d, want OK", i, e)
		}
	}
}

// spin makes an empty disk.
func spin(t testing.TB, room int) *disk.Disk {
	t.Helper()
	d, e := disk.New(room)
	must(t, e)
	return d
}

// open opens a disk that may be opened.
func open(t testing.TB, d *disk.Disk) *Log {
	t.Helper()
	l, e := Open(d)
	if e != api.OK || l == nil {
		t.Fatalf("Open: %v, %d", l, e)
	}
	return l
}

// made makes a log of some records on a disk, with a base if the first one's number is not 0.
func made(t testing.TB, room int, first int64, recs ...string) (*disk.Disk, *Log) {
	t.Helper()
	d := spin(t, room)
	l := open(t, d)
	if first != 0 {
		must(t, l.Restart(first))
	}
	add(t, l, recs...)
	return d, l
}

// add adds records.
func add(t testing.TB, l *Log, recs ...string) {
	t.Helper()
	for _, s := range recs {
		must(t, l.Add([]byte(s)))
	}
}

// put lays a file on a disk.
func put(t testing.TB, d *disk.Disk, name, s string) {
	t.Helper()
	must(t, d.Append(name, []byte(s)), d.Sync(name))
}

// again lets the power go and come, and opens what is left.
func again(t testing.TB, d *disk.Disk, keep int) *Log {
	t.Helper()
	d.Crash(keep)
	d.On()
	return open(t, d)
}

// framed tells records in frames.
func framed(recs ...string) string {
	var b []byte
	for _, s := range recs {
		b, _ = frame.Put(b, []byte(s))
	}
	return string(b)
}

// number tells a base's bytes.
func number(n int64) string { return framed(string(pack.I64(nil, n))) }

// show tells all that a log tells, in one text.
func show(l *Log) string {
	s := fmt.Sprint(l.First(), "-", l.Next(), ":")
	for n := l.First(); n < l.Next(); n++ {
		b, e := l.At(n)
		s += fmt.Sprintf(" %q", b)
		if e != api.OK {
			s += fmt.Sprint("!", int(e))
		}
	}
	return s
}

// text tells what show tells of a log of these records.
func text(first int64, recs ...string) string {
	s := fmt.Sprint(first, "-", first+int64(len(recs)), ":")
	for _, r := range recs {
		s += fmt.Sprintf(" %q", r)
	}
	return s
}

// files tells a disk's files in one text.
func files(d *disk.Disk) string {
	s := ""
	for _, name := range d.Names() {
		b, _ := d.Read(name)
		s += fmt.Sprintf(" %s=%x", name, b)
	}
	return s
}

// safe tells which files are left behind a Crash(0).
func safe(d *disk.Disk) string {
	d.Crash(0)
	d.On()
	return files(d)
}

// want holds what a log tells against what it should.
func want(t testing.TB, l *Log, first int64, recs ...string) {
	t.Helper()
	if s := show(l); s != text(first, recs...) {
		t.Fatalf("told %s, want %s", s, text(first, recs...))
	}
}

// wantFile holds a file's bytes against what they should be.
func wantFile(t testing.TB, d *disk.Disk, name, bytes string) {
	t.Helper()
	if b, e := d.Read(name); e != api.OK || string(b) != bytes {
		t.Fatalf("%s is %x, %d, want %x", name, b, e, bytes)
	}
}

// wantDone holds a log against what one answers that is done, whatever it is asked.
func wantDone(t testing.TB, l *Log, first, next int64) {
	t.Helper()
	d := l.disk
	held := files(d)
	numbers := []int64{math.MinInt64, -1, 0, 1, first - 1, first, first + 1, next - 1, next, next + 1, top, top + 1, math.MaxInt64}
	for _, n := range numbers { // ahead of all that asks the disk: which might make it done just then
		if b, e := l.At(n); len(b) != 0 || e != api.EOFF {
			t.Fatalf("done: At(%d): %q, %d, want EOFF", n, b, e)
		}
	}
	for _, b := range [][]byte{make([]byte, most+1), make([]byte, most), []byte("x"), nil} {
		if e := l.Add(b); e != api.EOFF {
			t.Fatalf("done: Add of %d bytes: %d, want EOFF", len(b), e)
		}
	}
	if e := l.Sync(); e != api.EOFF {
		t.Fatalf("done: Sync: %d, want EOFF", e)
	}
	for _, n := range numbers {
		if e := l.CutTo(n); e != api.EOFF {
			t.Fatalf("done: CutTo(%d): %d, want EOFF", n, e)
		}
		if e := l.Restart(n); e != api.EOFF {
			t.Fatalf("done: Restart(%d): %d, want EOFF", n, e)
		}
	}
	if l.First() != first || l.Next() != next {
		t.Fatalf("done: First %d, Next %d, want %d, %d", l.First(), l.Next(), first, next)
	}
	if files(d) != held {
		t.Fatalf("done: the disk is changed: %s, was %s", files(d), held)
	}
}

// P8.1: Open of an empty disk: no record, and no file is made.
func TestOpenEmpty(t *testing.T) {
	d := spin(t, 64)
	want(t, open(t, d), 1)
	if s := files(d); s != "" {
		t.Errorf("files are made: %s", s)
	}
	must(t, d.Append("other", []byte("x")))
	want(t, open(t, d), 1)
	if s := files(d); s != " other=78" {
		t.Errorf("files are changed: %s", s)
	}
	must(t, d.Append("log", nil))
	want(t, open(t, d), 1)
}

// P8.1: Open without power: EOFF, whatever lies there.
func TestOpenWithoutPower(t *testing.T) {
	for _, lies := range [][2]string{{}, {"log", framed("a")}, {"log", "torn"}, {"log", strings.Repeat("x", 12)}, {"base", "x"}, {"base", number(5)}} {
		d := spin(t, 1000)
		if lies[0] != "" {
			put(t, d, lies[0], lies[1])
		}
		held := files(d)
		d.Crash(0)
		if l, e := Open(d); l != nil || e != api.EOFF {
			t.Errorf("%q: %v, %d, want EOFF", lies, l, e)
		}
		d.On()
		if files(d) != held {
			t.Errorf("%q: %s, was %s", lies, files(d), held)
		}
	}
}

// P8.1: Open: which bases may be, and what number they tell.
func TestBases(t *testing.T) {
	for _, n := range []int64{1, 2, 5, 255, 256, 1 << 32, top - 1, top} {
		d := spin(t, 1000)
		put(t, d, "base", number(n))
		want(t, open(t, d), n)
		put(t, d, "log", framed("a", "", "b"))
		want(t, open(t, d), n, "a", "", "b")
		wantFile(t, d, "base", number(n))
	}
	bad := []string{
		"", "x", "base", number(5)[:12], strings.Repeat("\x00", 12), strings.Repeat("x", 20), string(pack.I64(nil, 5)),
		number(5) + number(5), number(5) + framed(""), framed("") + number(5), framed("", ""),
		number(5) + "x", number(5) + "\x00", "x" + number(5), number(5) + strings.Repeat("\x00", 12), number(5) + number(6)[:19],
		framed(""), framed("x"), framed(string(pack.I64(nil, 5))[:7]), framed(string(pack.I64(nil, 5)) + "\x00"),
		framed("\x00" + string(pack.I64(nil, 5))), framed(string(pack.All(nil, 5, 6))), framed("5"),
		number(0), number(-1), number(top + 1), number(math.MaxInt64), number(math.MinInt64), number(-top), number(1 << 41),
	}
	for _, b := range bad {
		wantForm(t, "base", b)
	}
}

// wantForm holds Open of a disk with one file more against EFORM: and nothing is changed, a torn log neither.
func wantForm(t *testing.T, name, b string) {
	t.Helper()
	for _, log := range []string{"", framed("a"), framed("a") + "torn"} {
		d := spin(t, 1000)
		if log != "" {
			must(t, d.Append("log", []byte(log)))
		}
		must(t, d.Append(name, []byte(b)))
		held := files(d)
		if l, e := Open(d); l != nil || e != api.EFORM {
			t.Errorf("Open, log %q, %s %q: %v, %d, want EFORM", log, name, b, l, e)
		}
		if files(d) != held {
			t.Errorf("Open, log %q, %s %q: %s, was %s", log, name, b, files(d), held)
		}
	}
}

// P8.1: Open: a base that is cut at any place, or has any bit turned, is none.
func TestBasesThatAreNotWhole(t *testing.T) {
	b := number(5)
	for i := range len(b) {
		wantForm(t, "base", b[:i])
		for bit := range 8 {
			turned := []byte(b)
			turned[i] ^= 1 << bit
			wantForm(t, "base", string(turned))
		}
	}
}

// P8.1: Open: a `base.new` is neither asked nor changed.
func TestOpenPassesOverFresh(t *testing.T) {
	for _, fresh := range []string{"", "junk", number(9), number(9)[:13], strings.Repeat("\x00", 12)} {
		d := spin(t, 1000)
		put(t, d, "base.new", fresh)
		put(t, d, "log", framed("a"))
		held := files(d)
		want(t, open(t, d), 1, "a")
		put(t, d, "base", number(7))
		want(t, open(t, d), 7, "a")
		must(t, d.Drop("base"))
		if files(d) != held {
			t.Errorf("base.new %q: %s, was %s", fresh, files(d), held)
		}
	}
}

// P8.1: Open of a log that is whole: its records; it is left as it is, with what is safe of it and no more.
func TestOpenWhole(t *testing.T) {
	lists := [][]string{{}, {""}, {"a"}, {"", "", ""}, {"a", "", "bc", strings.Repeat("d", 500)}, {framed("in", "side"), "\x00\xff"}, {strings.Repeat("y", most)}}
	for _, recs := range lists {
		d := spin(t, 1<<20)
		put(t, d, "log", framed(recs...))
		must(t, d.Append("log", []byte(framed("more"))))
		want(t, open(t, d), 1, append(slices.Clone(recs), "more")...)
		wantFile(t, d, "log", framed(recs...)+framed("more"))
		if s := safe(d); s != fmt.Sprintf(" log=%x", framed(recs...)) {
			t.Errorf("%d records: safe is %s", len(recs), s)
		}
		want(t, open(t, d), 1, recs...)
	}
}

// P8.1: Open of a log that is torn, at each place: the end is Cut off, and what is added then is behind.
func TestOpenTorn(t *testing.T) {
	recs := []string{"one", "", "three", "\x00\x00"}
	all := framed(recs...)
	for n := range len(all) + 1 {
		d := spin(t, 1000)
		put(t, d, "log", all[:n])
		whole := 0
		for whole < len(recs) && len(framed(recs[:whole+1]...)) <= n {
			whole++
		}
		l := open(t, d)
		want(t, l, 1, recs[:whole]...)
		wantFile(t, d, "log", framed(recs[:whole]...))
		add(t, l, "new", "er")
		must(t, l.CutTo(l.Next()-1), l.Sync())
		left := append(slices.Clone(recs[:whole]), "new")
		wantFile(t, d, "log", framed(left...))
		want(t, again(t, d, 0), 1, left...)
	}
}

// P8.1: Open of a torn log: Cut alone: what was safe of it stays safe, and nothing else is.
func TestTornIsCutAlone(t *testing.T) {
	d := spin(t, 1000)
	put(t, d, "log", framed("a"))
	must(t, d.Append("log", []byte(framed("b")+"torn")))
	want(t, open(t, d), 1, "a", "b")
	wantFile(t, d, "log", framed("a", "b"))
	if s := safe(d); s != fmt.Sprintf(" log=%x", framed("a")) {
		t.Errorf("safe is %s", s)
	}
	d = spin(t, 1000)
	put(t, d, "log", "torn")
	open(t, d)
	if s := safe(d); s != " log=" {
		t.Errorf("cut to 0: %s", s)
	}
}

// P8.1: Open of a log that is broken: EFORM, wherever it is; nothing is changed.
func TestOpenBroken(t *testing.T) {
	all := framed("one", "", "three")
	list := []string{strings.Repeat("x", 12), strings.Repeat("\x00", 12), framed("a") + strings.Repeat("\xff", 12), framed("a")[1:] + "x"}
	for i := range len(all) {
		for bit := range 8 {
			turned := []byte(all)
			turned[i] ^= 1 << bit
			list = append(list, string(turned))
		}
	}
	long := append([]byte{0, 0, 0x4e, 0x21, 0xff, 0xff, 0xb1, 0xde}, make([]byte, 100)...) // 20001 bytes
	for _, log := range append(list, string(long)) {
		for _, base := range []string{"", number(4)} {
			d := spin(t, 1000)
			must(t, d.Append("log", []byte(log)))
			if base != "" {
				must(t, d.Append("base", []byte(base)))
			}
			held := files(d)
			if l, e := Open(d); l != nil || e != api.EFORM || files(d) != held {
				t.Errorf("Open of %x: %v, %d, want EFORM; %s, was %s", log, l, e, files(d), held)
			}
		}
	}
}

// P8.1: Add: it is the record Next(); its frame lies behind the others'.
func TestAdd(t *testing.T) {
	for _, first := range []int64{0, 1, 7, top} {
		d, l := made(t, 1000, first)
		var recs []string
		for _, s := range []string{"one", "", "two", "\x00", strings.Repeat("z", 100), "one"} {
			next := l.Next()
			add(t, l, s)
			recs = append(recs, s)
			if b, e := l.At(next); e != api.OK || string(b) != s || l.Next() != next+1 {
				t.Errorf("record %d is %q, %d, Next %d", next, b, e, l.Next())
			}
			want(t, l, max(first, 1), recs...)
			wantFile(t, d, "log", framed(recs...))
		}
	}
}

// P8.1: Add: no bytes, as many as frame takes, and one more: then nothing is changed, and the log is not done.
func TestAddLimits(t *testing.T) {
	d, l := made(t, 1<<20, 0)
	must(t, l.Add(nil), l.Add([]byte{}), l.Add(bytes.Repeat([]byte("m"), most)))
	recs := []string{"", "", strings.Repeat("m", most)}
	held := files(d)
	for _, n := range []int{most + 1, most + 2, 1 << 16, 1 << 21} {
		if e := l.Add(make([]byte, n)); e != api.ELIMIT {
			t.Errorf("Add of %d bytes: %d, want ELIMIT", n, e)
		}
		if files(d) != held {
			t.Errorf("Add of %d bytes: the disk is changed", n)
		}
	}
	want(t, l, 1, recs...)
	add(t, l, "more")
	must(t, l.Sync())
	want(t, again(t, d, 0), 1, append(recs, "more")...)
}

// P8.1, R6: ELIMIT is told ahead of the disk's error, and leaves the log as it was.
func TestAddLimitFirst(t *testing.T) {
	d, l := made(t, 64, 0, "a")
	if e := l.Add(make([]byte, most+1)); e != api.ELIMIT {
		t.Errorf("full: %d, want ELIMIT", e)
	}
	d.Crash(0)
	if e := l.Add(make([]byte, most+1)); e != api.ELIMIT {
		t.Errorf("without power: %d, want ELIMIT", e)
	}
	want(t, l, 1, "a")
}

// P8.1: Add on a disk that is full: EFULL, then the log is done, till it is opened anew.
func TestAddFull(t *testing.T) {
	for _, n := range []int{20, 21, 50, 100, most} {
		d, l := made(t, 64, 5, "a") // 20 and 13 bytes: there is room for a record of 19
		held := files(d)
		if e := l.Add(make([]byte, n)); e != api.EFULL {
			t.Errorf("Add of %d bytes: %d, want EFULL", n, e)
		}
		if files(d) != held {
			t.Errorf("Add of %d bytes: %s, was %s", n, files(d), held)
		}
		wantDone(t, l, 5, 6)
		k := open(t, d)
		want(t, k, 5, "a")
		wantDone(t, l, 5, 6)
		add(t, k, strings.Repeat("r", 19))
		want(t, k, 5, "a", strings.Repeat("r", 19))
		if e := k.Add(nil); e != api.EFULL {
			t.Errorf("Add of nothing: %d, want EFULL", e)
		}
		wantDone(t, k, 5, 7)
	}
}

// P8.1: Add without power: EOFF, and done.
func TestAddWithoutPower(t *testing.T) {
	d, l := made(t, 64, 0, "a")
	d.Crash(9)
	if e := l.Add([]byte("b")); e != api.EOFF {
		t.Errorf("%d, want EOFF", e)
	}
	wantDone(t, l, 1, 2)
}

// P8.1: Sync: all that was added is safe; what is added later is not; no other file is synced.
func TestSync(t *testing.T) {
	d, l := made(t, 1000, 0, "one", "two")
	must(t, d.Append("other", []byte("x")), l.Sync(), l.Sync())
	add(t, l, "three")
	want(t, l, 1, "one", "two", "three")
	l = again(t, d, 0)
	want(t, l, 1, "one", "two")
	wantFile(t, d, "other", "")
	add(t, l, "drei")
	must(t, l.Sync())
	want(t, again(t, d, 0), 1, "one", "two", "drei")
}

// P8.1: Sync of a log that has no file: OK, and none is made.
func TestSyncOfNoFile(t *testing.T) {
	d, l := made(t, 64, 0)
	must(t, l.Sync(), l.Sync())
	if s := files(d); s != "" {
		t.Errorf("files are made: %s", s)
	}
	must(t, l.Restart(3), l.Sync())
	if s := files(d); s != fmt.Sprintf(" base=%x", number(3)) {
		t.Errorf("files are made: %s", s)
	}
	add(t, l, "a")
	want(t, l, 3, "a")
}

// P8.1: Sync without power: EOFF, and done; of a log that has no file too.
func TestSyncWithoutPower(t *testing.T) {
	for _, recs := range [][]string{nil, {"a", "b"}} {
		d, l := made(t, 64, 0, recs...)
		d.Crash(0)
		if e := l.Sync(); e != api.EOFF {
			t.Errorf("%d records: %d, want EOFF", len(recs), e)
		}
		wantDone(t, l, 1, 1+int64(len(recs)))
	}
}

// P8.1: At: of which numbers there is a record.
func TestAt(t *testing.T) {
	for _, first := range []int64{1, 2, 100, top} {
		d, l := made(t, 1000, first)
		for range 2 { // without records, and with some
			held := files(d)
			for _, n := range []int64{first - 1, l.Next(), l.Next() + 1, 0, -1, -first, first - top - 1, math.MinInt64, math.MinInt64 + 1, math.MaxInt64, math.MaxInt64 - 1} {
				if b, e := l.At(n); len(b) != 0 || e != api.ENONE {
					t.Errorf("of %d to %d, At(%d): %q, %d, want ENONE", first, l.Next(), n, b, e)
				}
			}
			if files(d) != held {
				t.Errorf("At changes the disk")
			}
			add(t, l, "a", "b", "c")
		}
		for i, s := range []string{"a", "b", "c", "a", "b", "c"} {
			if b, e := l.At(first + int64(i)); e != api.OK || string(b) != s {
				t.Errorf("of %d, At(%d): %q, %d, want %q", first, first+int64(i), b, e, s)
			}
		}
	}
}

// P8.1: At without power, ahead of the disk's coming back: the log is not done, for no call has failed yet.
func TestAtWithoutPower(t *testing.T) {
	d, l := made(t, 64, 0, "a")
	d.Crash(0)
	if b, e := l.At(1); e != api.OK || string(b) != "a" {
		t.Errorf("%q, %d", b, e)
	}
	if b, e := l.At(2); len(b) != 0 || e != api.ENONE {
		t.Errorf("%q, %d, want ENONE", b, e)
	}
	d.On()
	wantDone(t, l, 1, 2)
}

// P8.1: CutTo: at each number: the records from it on go, and the file has the frames of the others.
func TestCutTo(t *testing.T) {
	recs := []string{"one", "", "three", strings.Repeat("4", 40)}
	for _, first := range []int64{0, 1, 9, top} {
		low := max(first, 1)
		for n := range len(recs) + 1 {
			d, l := made(t, 1000, first, recs...)
			must(t, l.CutTo(low+int64(n)))
			want(t, l, low, recs[:n]...)
			wantFile(t, d, "log", framed(recs[:n]...))
			want(t, open(t, d), low, recs[:n]...)
			for _, bad := range []int64{low - 1, l.Next() + 1, math.MinInt64, math.MaxInt64, -low, 0} {
				if e := l.CutTo(bad); e != api.EARG {
					t.Errorf("of %d to %d, CutTo(%d): %d, want EARG", low, l.Next(), bad, e)
				}
			}
			want(t, l, low, recs[:n]...)
			add(t, l, "new", "er")
			left := append(slices.Clone(recs[:n]), "new", "er")
			want(t, l, low, left...)
			wantFile(t, d, "log", framed(left...))
			want(t, open(t, d), low, left...)
		}
	}
}

// P8.1: CutTo: what is refused changes nothing, of an empty log neither.
func TestCutToRefused(t *testing.T) {
	d, l := made(t, 64, 0)
	must(t, l.CutTo(1))
	for _, n := range []int64{0, 2, -1, math.MaxInt64, math.MinInt64} {
		if e := l.CutTo(n); e != api.EARG {
			t.Errorf("CutTo(%d): %d, want EARG", n, e)
		}
	}
	if s := files(d); s != "" {
		t.Errorf("files are made: %s", s)
	}
	add(t, l, "a")
	want(t, l, 1, "a")
}

// P8.1: CutTo(Next()) does nothing, without power neither.
func TestCutToNext(t *testing.T) {
	d, l := made(t, 1000, 0, "a", "b")
	held := files(d)
	must(t, l.CutTo(3))
	if files(d) != held {
		t.Errorf("%s, was %s", files(d), held)
	}
	d.Crash(0)
	must(t, l.CutTo(3))
	want(t, l, 1, "a", "b")
	if e := l.CutTo(4); e != api.EARG {
		t.Errorf("without power, past the end: %d, want EARG", e)
	}
	if e := l.CutTo(2); e != api.EOFF {
		t.Errorf("without power: %d, want EOFF", e)
	}
	wantDone(t, l, 1, 3)
}

// P8.1, P8.2: CutTo: of those that stay, those that were safe are safe; those that go do not come back.
func TestCutToAndSafe(t *testing.T) {
	for keep := range 60 {
		d, l := made(t, 1000, 0, "a", "b", "c")
		must(t, l.Sync())
		add(t, l, "d", "e")
		must(t, l.CutTo(3))
		want(t, again(t, d, keep), 1, "a", "b")
		d, l = made(t, 1000, 0, "a", "b", "c")
		must(t, l.Sync())
		add(t, l, "d", "e")
		must(t, l.CutTo(5))
		left := []string{"a", "b", "c"}
		if keep >= len(framed("d")) {
			left = append(left, "d")
		}
		want(t, again(t, d, keep), 1, left...)
	}
}

// P8.1: CutTo, many times over, keeps the place in the file.
func TestCutToOften(t *testing.T) {
	d, l := made(t, 1<<20, 3)
	var recs []string
	r := rand.New(rand.NewSource(8))
	for i := range 500 {
		s := strings.Repeat(string(rune('a'+i%26)), r.Intn(30))
		add(t, l, s)
		recs = append(recs, s)
		if r.Intn(3) == 0 {
			n := r.Intn(min(len(recs), 4))
			recs = recs[:len(recs)-n]
			must(t, l.CutTo(3+int64(len(recs))))
		}
		wantFile(t, d, "log", framed(recs...))
		if l.First() != 3 || l.Next() != 3+int64(len(recs)) {
			t.Fatalf("%d to %d", l.First(), l.Next())
		}
	}
	want(t, l, 3, recs...)
	want(t, open(t, d), 3, recs...)
}

// P8.1: Restart: which numbers may be; what is refused changes nothing.
func TestRestartNumbers(t *testing.T) {
	for _, n := range []int64{0, -1, top + 1, 1 << 41, -top, math.MaxInt64, math.MinInt64} {
		for _, off := range []bool{false, true} {
			d, l := made(t, 1000, 4, "a")
			put(t, d, "base.new", "junk")
			must(t, l.Sync())
			held := files(d)
			if off {
				d.Crash(0)
			}
			if e := l.Restart(n); e != api.EARG {
				t.Errorf("Restart(%d): %d, want EARG", n, e)
			}
			want(t, l, 4, "a")
			if off {
				d.On()
			}
			if files(d) != held {
				t.Errorf("Restart(%d): %s, was %s", n, files(d), held)
			}
		}
	}
	for _, n := range []int64{1, 2, 4, 1 << 20, top - 1, top} {
		for _, recs := range [][]string{nil, {"a"}, {"a", "", "b"}} {
			d, l := made(t, 1000, 0, recs...)
			must(t, l.Restart(n))
			want(t, l, n)
			log := " log="
			if recs == nil {
				log = "" // no file that is not there is made
			}
			if s := files(d); s != fmt.Sprintf(" base=%x%s", number(n), log) {
				t.Errorf("Restart(%d) of %q: %s", n, recs, s)
			}
			add(t, l, "x", "y")
			want(t, l, n, "x", "y")
			wantFile(t, d, "log", framed("x", "y"))
			want(t, open(t, d), n, "x", "y")
			wantFile(t, d, "base", number(n))
		}
	}
}

// P8.1: Restart to the number that it begins with, and several of them.
func TestRestartOften(t *testing.T) {
	d, l := made(t, 1000, 0, "a", "b")
	for _, n := range []int64{1, 1, 3, 2, top, 1, 7} {
		must(t, l.Restart(n))
		want(t, l, n)
		add(t, l, "r", "s")
		must(t, l.CutTo(n+1))
		want(t, l, n, "r")
		if s := files(d); s != fmt.Sprintf(" base=%x log=%x", number(n), framed("r")) {
			t.Errorf("Restart(%d): %s", n, s)
		}
	}
	must(t, l.Sync())
	want(t, again(t, d, 0), 7, "r")
}

// P8.1: Restart: a `base.new` that was left behind, be it what it may, is not in the way.
func TestRestartOverFresh(t *testing.T) {
	for _, fresh := range []string{"", "junk", number(3), number(3)[:19], number(9) + "x", strings.Repeat("\xff", 44)} {
		for _, sync := range []bool{false, true} {
			d, l := made(t, 100, 2, "a")
			must(t, d.Append("base.new", []byte(fresh)))
			if sync {
				must(t, d.Sync("base.new"))
			}
			must(t, l.Restart(9))
			want(t, l, 9)
			if s := safe(d); s != fmt.Sprintf(" base=%x log=", number(9)) {
				t.Errorf("base.new %q: %s", fresh, s)
			}
		}
	}
}

// P8.1: Restart, in its order: the room of the log and of `base.new` is free when the new one is appended.
func TestRestartFreesFirst(t *testing.T) {
	d, l := made(t, 64, 2, strings.Repeat("x", 32)) // 20 and 44 bytes
	if d.Size() != 64 {
		t.Fatalf("%d bytes, want a full disk", d.Size())
	}
	must(t, l.Restart(3))
	want(t, again(t, d, 0), 3)
	d, l = made(t, 64, 2)
	must(t, d.Append("base.new", make([]byte, 44)), l.Restart(4))
	want(t, again(t, d, 0), 4)
	d, l = made(t, 64, 2)
	must(t, d.Append("rest", make([]byte, 24)), l.Restart(5)) // just as many as both bases leave
	want(t, again(t, d, 0), 5)
}

// P8.1, P8.2: Restart on a full disk: EFULL, and done; the steps ahead of it are done, and those behind are not.
func TestRestartFull(t *testing.T) {
	for _, sync := range []bool{false, true} {
		for _, base := range []int64{0, 2} {
			d, l := made(t, 100, base, "ab")
			if sync {
				must(t, l.Sync())
			}
			must(t, d.Append("base.new", []byte("junk")))
			// Even behind the log and the junk there is room for 19 bytes alone.
			put(t, d, "rest", strings.Repeat("r", 81-baseSize(base)))
			if e := l.Restart(9); e != api.EFULL {
				t.Fatalf("Restart: %d, want EFULL", e)
			}
			low := max(base, 1)
			wantDone(t, l, low, low+1)
			if b, e := d.Read("log"); e != api.OK || len(b) != 0 {
				t.Errorf("the log is not cut: %x, %d", b, e)
			}
			if _, e := d.Read("base.new"); e != api.ENONE {
				t.Errorf("base.new is there: %d", e)
			}
			k := open(t, d)
			want(t, k, low)
			must(t, d.Cut("rest", 0), k.Restart(9))
			want(t, again(t, d, 0), 9)
			wantDone(t, l, low, low+1)
		}
	}
}

// baseSize tells how many bytes the base of a log takes that made has made.
func baseSize(first int64) int {
	if first == 0 {
		return 0
	}
	return len(number(first))
}

// P8.1: Restart without power: EOFF, and done; nothing is changed.
func TestRestartWithoutPower(t *testing.T) {
	for _, recs := range [][]string{nil, {"a"}} {
		d, l := made(t, 1000, 2, recs...)
		must(t, l.Sync())
		held := files(d)
		d.Crash(0)
		if e := l.Restart(9); e != api.EOFF {
			t.Errorf("%d, want EOFF", e)
		}
		wantDone(t, l, 2, 2+int64(len(recs)))
		d.On()
		if files(d) != held {
			t.Errorf("%s, was %s", files(d), held)
		}
		want(t, open(t, d), 2, recs...)
	}
}

// P8.2: Restart: behind it the new number stays, whatever is lost, and no record comes back.
func TestRestartStays(t *testing.T) {
	for _, sync := range []bool{false, true} {
		for keep := -1; keep < 60; keep++ {
			d, l := made(t, 1000, 2, "a", "b")
			if sync {
				must(t, l.Sync())
			}
			must(t, l.Restart(7))
			want(t, again(t, d, keep), 7)
		}
	}
}

// P8.2: a crash between any two steps of Restart: the records, or nothing; with the old number, or with the new one.
func TestCrashInRestart(t *testing.T) {
	for _, left := range []string{"none", "", "junk", number(5)} {
		for keep := -1; keep < 60; keep++ {
			for steps := range 6 {
				d, l := made(t, 1000, 2, "a", "b")
				must(t, l.Sync())
				add(t, l, "c")
				if left != "none" {
					must(t, d.Append("base.new", []byte(left)))
				}
				for _, step := range restartSteps(d, 9)[:steps] {
					step()
				}
				recs := []string{"a", "b"}
				if keep >= len(framed("c")) {
					recs = append(recs, "c")
				}
				first := int64(2)
				if steps > 0 {
					recs = nil
				}
				if steps == 5 {
					first = 9
				}
				k := again(t, d, keep)
				want(t, k, first, recs...)
				must(t, k.Restart(11), k.Add([]byte("x")), k.Sync())
				want(t, again(t, d, 0), 11, "x")
			}
		}
	}
}

// restartSteps are Restart's, by the chapter, one by one.
func restartSteps(d *disk.Disk, n int64) []func() {
	return []func(){
		func() { d.Cut("log", 0) },
		func() { d.Drop("base.new") },
		func() { d.Append("base.new", []byte(number(n))) },
		func() { d.Sync("base.new") },
		func() { d.Rename("base.new", "base") },
	}
}

// P8.1: behind all the chapter's steps a disk is what it is behind Restart, and loses as little.
func TestRestartIsItsSteps(t *testing.T) {
	for keep := -1; keep < 60; keep++ {
		one, l := made(t, 1000, 2, "a", "b")
		two, _ := made(t, 1000, 2, "a", "b")
		must(t, one.Append("base.new", []byte("junk")), two.Append("base.new", []byte("junk")))
		must(t, l.Restart(9))
		for _, step := range restartSteps(two, 9) {
			step()
		}
		if files(one) != files(two) {
			t.Fatalf("%s, want %s", files(one), files(two))
		}
		one.Crash(keep)
		two.Crash(keep)
		one.On()
		two.On()
		if files(one) != files(two) {
			t.Fatalf("behind Crash(%d): %s, want %s", keep, files(one), files(two))
		}
	}
}

// P8.2, and the chapter's example: Add, Add, Sync, Crash, Open: both.
func TestExample(t *testing.T) {
	d, l := made(t, 100, 0, "one", "two")
	must(t, l.Sync())
	d.Crash(0)
	d.On()
	want(t, open(t, d), 1, "one", "two")
}

// P8.2: a crash with every keep, behind each call of a run: what is left is a beginning of what was added, with at
// least what was synced.
func TestCrashBehindEachCall(t *testing.T) {
	type step struct {
		do    func(l *Log) api.Errno
		first int64
		recs  []string
		safe  int // of these records
	}
	adds := func(s string) func(l *Log) api.Errno {
		return func(l *Log) api.Errno { return l.Add([]byte(s)) }
	}
	cuts := func(n int64) func(l *Log) api.Errno {
		return func(l *Log) api.Errno { return l.CutTo(n) }
	}
	restarts := func(n int64) func(l *Log) api.Errno {
		return func(l *Log) api.Errno { return l.Restart(n) }
	}
	list := []step{
		{adds("one"), 1, []string{"one"}, 0}, {adds(""), 1, []string{"one", ""}, 0},
		{(*Log).Sync, 1, []string{"one", ""}, 2}, {adds("three"), 1, []string{"one", "", "three"}, 2},
		{cuts(2), 1, []string{"one"}, 1}, {adds("zwei"), 1, []string{"one", "zwei"}, 1},
		{cuts(3), 1, []string{"one", "zwei"}, 1}, {adds("drei"), 1, []string{"one", "zwei", "drei"}, 1},
		{cuts(3), 1, []string{"one", "zwei"}, 1}, {(*Log).Sync, 1, []string{"one", "zwei"}, 2},
		{restarts(8), 8, nil, 0}, {adds("acht"), 8, []string{"acht"}, 0}, {adds("neun"), 8, []string{"acht", "neun"}, 0},
		{(*Log).Sync, 8, []string{"acht", "neun"}, 2}, {cuts(8), 8, nil, 0}, {adds("huit"), 8, []string{"huit"}, 0},
		{restarts(top), top, nil, 0}, {(*Log).Sync, top, nil, 0}, {adds("last"), top, []string{"last"}, 0},
	}
	for n := range len(list) + 1 {
		for keep := -1; keep < 80; keep++ {
			d, l := made(t, 1000, 0)
			at := step{first: 1}
			for _, at = range list[:n] {
				must(t, at.do(l))
			}
			want(t, l, at.first, at.recs...)
			size, whole := len(framed(at.recs[:at.safe]...))+max(keep, 0), at.safe
			for whole < len(at.recs) && len(framed(at.recs[:whole+1]...)) <= size {
				whole++
			}
			want(t, again(t, d, keep), at.first, at.recs[:whole]...)
			wantDone(t, l, at.first, at.first+int64(len(at.recs)))
		}
	}
}

// P8.2: a crash behind what Open itself has cut, and no record that was lost comes back.
func TestCrashBehindOpen(t *testing.T) {
	all := framed("one", "two")
	for one := range len(all) + 1 {
		for two := range 20 {
			d, _ := made(t, 1000, 0, "one", "two")
			l := again(t, d, one)
			had := []string{"one", "two"}[:l.Next()-1]
			want(t, l, 1, had...)
			want(t, again(t, d, two), 1, had...)
		}
	}
}

// P8.2: a Log whose disk went off and came back is done, even if nobody asked it anything between; the new one is not.
func TestLives(t *testing.T) {
	ways := map[string]func(d *disk.Disk){
		"Crash, On": func(d *disk.Disk) { d.Crash(0); d.On() },
		"all kept":  func(d *disk.Disk) { d.Crash(1000); d.On() },
		"On":        func(d *disk.Disk) { d.On() }, // with the power on it counts too
		"thrice":    func(d *disk.Disk) { d.Crash(0); d.On(); d.On(); d.On() },
		"off again": func(d *disk.Disk) { d.Crash(0); d.On(); d.Crash(0) },
	}
	for name, way := range ways {
		for _, recs := range [][]string{nil, {"a", "b"}} {
			d, l := made(t, 1000, 3, recs...)
			must(t, l.Sync())
			way(d)
			wantDone(t, l, 3, 3+int64(len(recs)))
			if !d.Power() {
				d.On()
			}
			k := open(t, d)
			want(t, k, 3, recs...)
			add(t, k, "new")
			must(t, k.Sync(), k.CutTo(k.Next()))
			want(t, k, 3, append(slices.Clone(recs), "new")...)
			wantDone(t, l, 3, 3+int64(len(recs)))
			way(d)
			wantDone(t, k, 3, 4+int64(len(recs)))
			if t.Failed() {
				t.Fatal(name)
			}
		}
	}
}

// P8.2: a log that is opened late is not done: the lives that count are those since Open.
func TestLivesAheadOfOpen(t *testing.T) {
	d := spin(t, 1000)
	for range 5 {
		d.Crash(0)
		d.On()
	}
	l := open(t, d)
	add(t, l, "a")
	must(t, l.Sync(), l.Restart(4), l.CutTo(4))
	want(t, l, 4)
}

// R4: bytes that are handed in are not changed, spare room included, and not kept.
func TestHandedIn(t *testing.T) {
	for _, n := range []int{0, 1, 7, 8, 9, 100, 1000, most, most + 1} {
		d, l := made(t, 1<<20, 0)
		spare := bytes.Repeat([]byte("s"), n+64)
		e := l.Add(spare[:n])
		if string(spare) != strings.Repeat("s", n+64) {
			t.Fatalf("%d bytes: what was handed in is changed", n)
		}
		clear(spare)
		if e != api.OK {
			continue
		}
		add(t, l, "next")
		must(t, l.CutTo(2))
		add(t, l, "more")
		if string(spare) != string(make([]byte, n+64)) {
			t.Fatalf("%d bytes: what was handed in is written to", n)
		}
		want(t, l, 1, strings.Repeat("s", n), "more")
		want(t, open(t, d), 1, strings.Repeat("s", n), "more")
	}
}

// R4: what is told is new memory, spare room too; of a log that was opened with its records as of one that was told them.
func TestAnswersAreNew(t *testing.T) {
	for _, n := range []int{1, 5, 8, 100, most} {
		d, l := made(t, 1<<20, 0, strings.Repeat("x", n), "b", strings.Repeat("y", n))
		for _, l := range []*Log{l, open(t, d)} {
			one, _ := l.At(1)
			two, _ := l.At(1)
			three, _ := l.At(2)
			clear(one[:cap(one)])
			clear(three[:cap(three)])
			if string(two) != strings.Repeat("x", n) {
				t.Fatalf("%d bytes: two answers share memory", n)
			}
			want(t, l, 1, strings.Repeat("x", n), "b", strings.Repeat("y", n))
			wantFile(t, d, "log", framed(strings.Repeat("x", n), "b", strings.Repeat("y", n)))
		}
		held, _ := l.At(3)
		must(t, l.CutTo(3), l.Add([]byte(strings.Repeat("z", n))), l.Restart(1), l.Add([]byte("new")))
		if string(held) != strings.Repeat("y", n) {
			t.Fatalf("%d bytes: an answer is changed later", n)
		}
	}
}

// R4: what was told may be handed in.
func TestAtAndAdd(t *testing.T) {
	d, l := made(t, 1000, 0, "ab")
	b, _ := l.At(1)
	must(t, l.Add(b), l.Add(b[:1]))
	b[0] = 'X'
	want(t, l, 1, "ab", "ab", "a")
	want(t, open(t, d), 1, "ab", "ab", "a")
}

// LANGUAGE.md, 8: records that went are not held in memory.
func TestNothingIsKept(t *testing.T) {
	_, l := made(t, 1000, 0, "a", "b", "c")
	must(t, l.CutTo(2))
	for _, rec := range l.recs[:cap(l.recs)][1:] {
		if rec != nil {
			t.Errorf("%q is held", rec)
		}
	}
	must(t, l.Restart(1))
	if cap(l.recs) != 0 {
		t.Errorf("%d records are held", cap(l.recs))
	}
}

// P8.1: two disks' logs have nothing to do with each other.
func TestLogsAreApart(t *testing.T) {
	d, one := made(t, 1000, 0, "a")
	_, two := made(t, 1000, 5, "b")
	d.Crash(0)
	d.On()
	wantDone(t, one, 1, 2)
	add(t, two, "c")
	want(t, two, 5, "b", "c")
}

// model is a log and its disk by the promises' words.
type model struct {
	room  int
	off   bool
	lives int
	first int64
	based bool     // there is a base
	there bool     // there is a log
	recs  []string // in the log
	safe  int      // bytes of it
	stale bool     // a `base.new` of eight bytes lies there
	open  bool     // there is a Log that is not done
	told  int64    // what that one, or the last one, tells as First
	next  int64
}

func (m *model) size() int {
	n := len(framed(m.recs...))
	if m.based {
		n += 20
	}
	if m.stale {
		n += 8
	}
	return n
}

func (m *model) fail(e api.Errno) api.Errno {
	m.open = false
	return e
}

func (m *model) add(b []byte) api.Errno {
	switch {
	case !m.open:
		return api.EOFF
	case len(b) > most:
		return api.ELIMIT
	case m.off:
		return m.fail(api.EOFF)
	case m.size()+12+len(b) > m.room:
		return m.fail(api.EFULL)
	}
	m.recs, m.there = append(slices.Clone(m.recs), string(b)), true
	m.next++
	return api.OK
}

func (m *model) sync() api.Errno {
	if !m.open {
		return api.EOFF
	}
	if m.off {
		return m.fail(api.EOFF)
	}
	m.safe = len(framed(m.recs...))
	return api.OK
}

func (m *model) cutTo(n int64) api.Errno {
	switch {
	case !m.open:
		return api.EOFF
	case n < m.told || n > m.next:
		return api.EARG
	case n == m.next:
		return api.OK
	case m.off:
		return m.fail(api.EOFF)
	}
	m.recs, m.next = m.recs[:n-m.told], n
	m.safe = min(m.safe, len(framed(m.recs...)))
	return api.OK
}

func (m *model) restart(n int64) api.Errno {
	switch {
	case !m.open:
		return api.EOFF
	case n < 1 || n > top:
		return api.EARG
	case m.off:
		return m.fail(api.EOFF)
	}
	m.recs, m.safe, m.stale = nil, 0, false
	if m.size()+20 > m.room {
		return m.fail(api.EFULL)
	}
	m.first, m.based, m.told, m.next = n, true, n, n
	return api.OK
}

func (m *model) crash(keep int) {
	m.off = true
	size := min(m.safe+max(keep, 0), len(framed(m.recs...)))
	whole := 0
	for whole < len(m.recs) && len(framed(m.recs[:whole+1]...)) <= size {
		whole++
	}
	// What is torn is Cut off when the log is opened: play does so at once.
	m.recs = m.recs[:whole]
	m.safe = len(framed(m.recs...))
}

// reopen tells what Open answers.
func (m *model) reopen() api.Errno {
	if m.off {
		return api.EOFF
	}
	m.open, m.told, m.next = true, m.first, m.first+int64(len(m.recs))
	return api.OK
}

// tell tells the disk's files, as files does.
func (m *model) tell() string {
	s := ""
	if m.off {
		return s
	}
	if m.based {
		s += fmt.Sprintf(" base=%x", number(m.first))
	}
	if m.stale {
		s += fmt.Sprintf(" base.new=%x", "leftover")
	}
	if m.there {
		s += fmt.Sprintf(" log=%x", framed(m.recs...))
	}
	return s
}

// world is a disk, the Log that was opened last, those that were opened ahead of it, and the model of all that.
type world struct {
	d   *disk.Disk
	l   *Log
	old []*Log
	m   *model
}

// reopen opens the disk anew.
func (w *world) reopen() (api.Errno, api.Errno) {
	l, e := Open(w.d)
	wants := w.m.reopen()
	if e == api.OK {
		w.old, w.l = append(w.old, w.l), l
	}
	return e, wants
}

// play does one step, that three numbers tell, and tells what was answered and what was to be.
func (w *world) play(kind, one, two byte) (api.Errno, api.Errno) {
	near := w.l.First() + int64(one)%8 - 2
	switch kind % 12 {
	case 0, 1, 2, 3:
		b := bytes.Repeat([]byte{'A' + one%26}, int(two)%24)
		if two == 255 {
			b = make([]byte, most+1)
		}
		return w.l.Add(b), w.m.add(b)
	case 4, 5:
		return w.l.Sync(), w.m.sync()
	case 6:
		return w.l.CutTo(near), w.m.cutTo(near)
	case 7:
		n := []int64{0, 1, top, top + 1, near, int64(two)}[int(two)%6]
		return w.l.Restart(n), w.m.restart(n)
	case 8:
		w.d.Crash(int(two)%64 - 2)
		w.m.crash(int(two)%64 - 2)
	case 9:
		w.d.On()
		w.m.off, w.m.open = false, false
		w.m.lives++
		return w.reopen()
	case 10:
		if w.m.open && !w.m.off {
			return api.OK, api.OK // an elder Log that is not done knows nothing of what another one does
		}
		return w.reopen()
	case 11:
		if !w.m.off && !w.m.stale && w.m.size()+8 <= w.m.room {
			w.d.Append("base.new", []byte("leftover"))
			w.d.Sync("base.new")
			w.m.stale = true
		}
	}
	return api.OK, api.OK
}

// hold holds all that is told against the model.
func (w *world) hold(t *testing.T) {
	t.Helper()
	if files(w.d) != w.m.tell() {
		t.Fatalf("the files are%s, want%s", files(w.d), w.m.tell())
	}
	if w.l.First() != w.m.told || w.l.Next() != w.m.next {
		t.Fatalf("%d to %d, want %d to %d", w.l.First(), w.l.Next(), w.m.told, w.m.next)
	}
	if !w.m.open {
		wantDone(t, w.l, w.m.told, w.m.next)
	} else if !w.m.off {
		want(t, w.l, w.m.first, w.m.recs...)
	}
	for _, l := range w.old {
		if e := l.Sync(); e != api.EOFF {
			t.Fatalf("an elder one: %d, want EOFF", e)
		}
	}
}

// run plays a list of steps, and holds all against the model behind each.
func run(t *testing.T, room int, steps []byte) {
	t.Helper()
	d := spin(t, room)
	w := &world{d: d, l: open(t, d), m: &model{room: room, lives: 1, first: 1, open: true, told: 1, next: 1}}
	for i := 0; i+2 < len(steps); i += 3 {
		if got, wants := w.play(steps[i], steps[i+1], steps[i+2]); got != wants {
			t.Fatalf("step %d: %d, want %d", i/3, got, wants)
		}
		w.hold(t)
	}
}

// P8.1, P8.2: long runs of all calls, against the model.
func TestRuns(t *testing.T) {
	for seed := range int64(300) {
		steps := make([]byte, 3*100)
		rand.New(rand.NewSource(seed)).Read(steps)
		run(t, []int{64, 100, 200, 1000}[seed%4], steps)
	}
}

// P8.1, P8.2: any run of calls, against the model.
func FuzzRuns(f *testing.F) {
	f.Add(byte(0), []byte{0, 0, 5, 4, 0, 0, 0, 0, 7, 8, 0, 5, 9, 0, 0, 6, 3, 0, 7, 0, 5})
	f.Add(byte(1), []byte{0, 0, 19, 0, 1, 19, 0, 2, 19, 10, 0, 0, 7, 0, 1, 11, 0, 0, 7, 0, 2})
	f.Fuzz(func(t *testing.T, room byte, steps []byte) { run(t, 64+int(room), steps[:min(len(steps), 600)]) })
}

// R1, P8.1: no call panics and each ends, whatever lies on the disk, and whatever it is asked.
func FuzzAny(f *testing.F) {
	f.Add([]byte(framed("a", "b")), []byte(number(5)), []byte("x"), int64(6))
	f.Add([]byte("torn"), []byte{}, []byte{}, int64(math.MinInt64))
	f.Add([]byte(framed("a")+"torn"), []byte(number(top)), make([]byte, most+1), int64(math.MaxInt64))
	f.Fuzz(func(t *testing.T, log, base, rec []byte, n int64) {
		d := spin(t, 1<<20)
		first := int64(1)
		put(t, d, "log", string(log[:min(len(log), 1<<17)]))
		log, _ = d.Read("log")
		if len(base) > 0 {
			put(t, d, "base", string(base[:min(len(base), 1<<17)]))
			if len(base) == 20 {
				first = pack.Read(base[12:]).I64()
			}
		}
		recs, used, how := frame.Scan(log)
		bad := how == 2 || len(base) > 0 && (first < 1 || first > top || string(base) != number(first))
		l, e := Open(d)
		if (e == api.EFORM) != bad || (l == nil) != bad || !bad && e != api.OK {
			t.Fatalf("Open: %v, %d, bad is %v", l, e, bad)
		}
		if bad {
			wantFile(t, d, "log", string(log))
			return
		}
		wantFile(t, d, "log", string(log[:used]))
		if l.First() != first || l.Next() != first+int64(len(recs)) {
			t.Fatalf("%d to %d, want %d and %d records", l.First(), l.Next(), first, len(recs))
		}
		next := l.Next()
		if b, e := l.At(n); (e == api.OK) != (n >= first && n < next) || e == api.OK && !bytes.Equal(b, recs[n-first]) {
			t.Fatalf("At(%d): %q, %d", n, b, e)
		}
		if e := l.CutTo(n); (e == api.OK) != (n >= first && n <= next) {
			t.Fatalf("CutTo(%d): %d", n, e)
		}
		if e := l.Add(rec); (e == api.OK) != (len(rec) <= most) {
			t.Fatalf("Add of %d bytes: %d", len(rec), e)
		}
		if e := l.Restart(n); (e == api.OK) != (n >= 1 && n <= top) {
			t.Fatalf("Restart(%d): %d", n, e)
		}
		again(t, d, int(n))
	})
}
