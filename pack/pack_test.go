package pack

import (
	"bytes"
	"encoding/binary"
	"math"
	"slices"
	"strings"
	"testing"
)

// numbers are ordinary ones and the edges.
func numbers() []int64 {
	return []int64{
		0, 1, -1, 2, -2, 7, 127, 128, 255, 256, -128, -129, -255, -256, -257, 65535, 65536, 1 << 24, 0x0102030405060708,
		math.MaxInt32, math.MinInt32, math.MaxInt32 + 1, 1 << 40, -1 << 40, 1 << 56, math.MaxInt64 - 1, math.MaxInt64, math.MinInt64, math.MinInt64 + 1,
	}
}

// texts are ordinary ones and the edges.
func texts() []string {
	return []string{
		"", "a", "ab", "\x00", "\x00\x00\x00\x00\x00\x00\x00\x00", "\xff\xfe", "é日", "a\nb",
		strings.Repeat("x", 255), strings.Repeat("x", 256), strings.Repeat("xy", 40000),
	}
}

// eight tells a number's bytes by the library's own rule.
func eight(v int64) []byte { return binary.BigEndian.AppendUint64(nil, uint64(v)) }

// gone tells whether nothing can be read any more, whatever is asked.
func gone(r *Reader) bool {
	for range 2 {
		if !r.Bad() || r.End() || r.I64() != 0 || r.Count(9) != 0 || r.Count(-1) != 0 || r.Count(math.MaxInt) != 0 ||
			r.Text(9) != "" || r.Text(0) != "" || r.Text(-1) != "" || r.Text(math.MaxInt) != "" {
			return false
		}
	}
	return r.Bad() && !r.End()
}

// P2.1: the chapter's example, and others, byte for byte.
func TestBytes(t *testing.T) {
	for _, c := range []struct {
		name      string
		got, want []byte
	}{
		{"Text of ab", Text(nil, "ab"), []byte{0, 0, 0, 0, 0, 0, 0, 2, 97, 98}},
		{"Text of nothing", Text(nil, ""), make([]byte, 8)},
		{"Text behind bytes", Text([]byte{9}, "b"), []byte{9, 0, 0, 0, 0, 0, 0, 0, 1, 98}},
		{"Text of 258 bytes", Text(nil, strings.Repeat("x", 258))[:9], []byte{0, 0, 0, 0, 0, 0, 1, 2, 120}},
		{"I64 of 0", I64(nil, 0), make([]byte, 8)},
		{"I64 of -1", I64(nil, -1), []byte{255, 255, 255, 255, 255, 255, 255, 255}},
		{"I64 of -2", I64(nil, -2), []byte{255, 255, 255, 255, 255, 255, 255, 254}},
		{"I64 of eight bytes", I64(nil, 0x0102030405060708), []byte{1, 2, 3, 4, 5, 6, 7, 8}},
		{"I64 of the least", I64(nil, math.MinInt64), []byte{128, 0, 0, 0, 0, 0, 0, 0}},
		{"I64 of the greatest", I64(nil, math.MaxInt64), []byte{127, 255, 255, 255, 255, 255, 255, 255}},
		{"I64 behind bytes", I64([]byte{5, 6}, 3), []byte{5, 6, 0, 0, 0, 0, 0, 0, 0, 3}},
		{"All of none", All(nil), nil},
		{"All of none, empty", All([]byte{}, []int64{}...), nil},
		{"All of none behind bytes", All([]byte("q")), []byte("q")},
		{"All of one", All(nil, 258), []byte{0, 0, 0, 0, 0, 0, 1, 2}},
		{"All of two behind a byte", All([]byte{1}, -1, 2), []byte{1, 255, 255, 255, 255, 255, 255, 255, 255, 0, 0, 0, 0, 0, 0, 0, 2}},
	} {
		if !bytes.Equal(c.got, c.want) {
			t.Errorf("%s: %v, not %v", c.name, c.got, c.want)
		}
	}
}

// P2.1: each number's bytes, alone and among others, and each read back.
func TestNumbers(t *testing.T) {
	var want []byte
	for _, v := range numbers() {
		want = append(want, eight(v)...)
		if got := I64(nil, v); !bytes.Equal(got, eight(v)) {
			t.Errorf("I64 of %d: %v", v, got)
		}
		r := Read(eight(v))
		if got := r.I64(); got != v || r.Bad() || !r.End() {
			t.Errorf("%d is read as %d", v, got)
		}
	}
	got := All(nil, numbers()...)
	if !bytes.Equal(got, want) {
		t.Errorf("All: %v", got)
	}
	r := Read(got)
	for i, v := range numbers() {
		if r.End() || r.Bad() || r.I64() != v {
			t.Errorf("number %d of many: not %d", i, v)
		}
	}
	if !r.End() || r.Bad() {
		t.Errorf("numbers: no end")
	}
}

// P2.1: each text's bytes, and what is read of them.
func TestTexts(t *testing.T) {
	var all []byte
	for _, s := range texts() {
		b := Text(nil, s)
		if !bytes.Equal(b, append(eight(int64(len(s))), s...)) {
			t.Errorf("Text of %.20q: %v", s, b)
		}
		for _, most := range []int{len(s), len(s) + 1, math.MaxInt} {
			r := Read(b)
			if got := r.Text(most); got != s || r.Bad() || !r.End() {
				t.Errorf("Text(%d) of %.20q: %.20q", most, s, got)
			}
		}
		for _, most := range []int{len(s) - 1, -1, math.MinInt} {
			r := Read(b)
			if got := r.Text(most); got != "" || !gone(r) {
				t.Errorf("Text(%d) of %.20q: %.20q", most, s, got)
			}
		}
		all = I64(Text(all, s), -3)
	}
	r := Read(all)
	for _, s := range texts() {
		if got := r.Text(len(s)); got != s || r.Bad() || r.End() || r.I64() != -3 {
			t.Errorf("of many: %.20q, not %.20q", got, s)
		}
	}
	if !r.End() {
		t.Errorf("texts: no end")
	}
}

// P2.1: a count is from 0 to most.
func TestCount(t *testing.T) {
	for _, c := range []struct {
		v    int64
		most int
		good bool
	}{
		{0, 0, true}, {0, 1, true}, {1, 1, true}, {5, 5, true}, {4, 5, true}, {math.MaxInt64, math.MaxInt, true}, {math.MaxInt64 - 1, math.MaxInt, true},
		{1, 0, false}, {6, 5, false}, {math.MaxInt64, 5, false}, {math.MaxInt64, math.MaxInt - 1, false}, {1 << 32, 5, false}, {1<<32 + 1, 5, false},
		{-1, 0, false}, {-1, 5, false}, {-1, math.MaxInt, false}, {math.MinInt64, 5, false},
		{0, -1, false}, {-1, -1, false}, {-2, -1, false}, {1, -1, false}, {math.MinInt64, math.MinInt, false},
	} {
		r := Read(All(nil, c.v, 8))
		got := r.Count(c.most)
		if c.good && (int64(got) != c.v || r.Bad() || r.End() || r.I64() != 8 || !r.End()) {
			t.Errorf("Count(%d) of %d: %d", c.most, c.v, got)
		}
		if !c.good && (got != 0 || !gone(r)) {
			t.Errorf("Count(%d) of %d: %d, Bad is %v", c.most, c.v, got, r.Bad())
		}
	}
}

// P2.1: what is not there, by each kind of read, behind none, some and many bytes.
func TestShort(t *testing.T) {
	reads := map[string]func(r *Reader) bool{
		"I64":   func(r *Reader) bool { return r.I64() == 0 },
		"Count": func(r *Reader) bool { return r.Count(math.MaxInt) == 0 },
		"Text":  func(r *Reader) bool { return r.Text(math.MaxInt) == "" },
	}
	for name, read := range reads {
		for n := range 8 {
			for _, fill := range []byte{0, 1, 255} {
				b := bytes.Repeat([]byte{fill}, n)
				if r := Read(b); r.Bad() || r.End() != (n == 0) || !read(r) || !gone(r) {
					t.Errorf("%s of %v", name, b)
				}
				if r := Read(I64(nil, 4)); r.I64() != 4 || !r.End() || !read(r) || !gone(r) {
					t.Errorf("%s behind the end", name)
				}
			}
		}
	}
}

// P2.1: a text takes just what is left, and not one byte more.
func TestTextLeft(t *testing.T) {
	for _, c := range []struct {
		count int64
		rest  string
		want  string
		good  bool
		end   bool
	}{
		{0, "", "", true, true}, {0, "a", "", true, false}, {1, "a", "a", true, true}, {1, "ab", "a", true, false}, {3, "abc", "abc", true, true},
		{1, "", "", false, false}, {3, "ab", "", false, false}, {9, "abcdefgh", "", false, false}, {-1, "ab", "", false, false},
		{math.MaxInt64, "ab", "", false, false}, {math.MaxInt64 - 7, "ab", "", false, false}, {1 << 32, "", "", false, false}, {math.MinInt64, "ab", "", false, false},
	} {
		r := Read(append(eight(c.count), c.rest...))
		got := r.Text(math.MaxInt)
		if got != c.want || r.Bad() == c.good || r.End() != c.end || !c.good && !gone(r) {
			t.Errorf("a count of %d, then %q: %q, Bad is %v, End is %v", c.count, c.rest, got, r.Bad(), r.End())
		}
	}
}

// P2.1: End asks for all to be read; to ask changes nothing.
func TestEnd(t *testing.T) {
	if r := Read(nil); !r.End() || r.Bad() || !r.End() {
		t.Errorf("nothing: no end")
	}
	if r := Read([]byte{}); !r.End() || r.Bad() {
		t.Errorf("an empty list: no end")
	}
	r := Read(append(eight(6), 1))
	if r.End() || r.Bad() || r.I64() != 6 || r.End() || r.Bad() || r.End() {
		t.Errorf("a byte is left over: at its end")
	}
	if r.I64() != 0 || !gone(r) {
		t.Errorf("a byte for a number")
	}
}

// P2.1 and R5: Readers know nothing of each other.
func TestTwoReaders(t *testing.T) {
	b := All(nil, 1, 2)
	one, two := Read(b), Read(b)
	if one.I64() != 1 || one.Count(1) != 0 || !gone(one) {
		t.Errorf("the first")
	}
	if two.I64() != 1 || two.I64() != 2 || !two.End() {
		t.Errorf("the second")
	}
}

// R4: what is handed in stays as it was, its spare room too; answers are new memory; nothing is kept.
func TestMemory(t *testing.T) {
	writes := map[string]func(b []byte) []byte{
		"I64":         func(b []byte) []byte { return I64(b, -1) },
		"Text":        func(b []byte) []byte { return Text(b, "text") },
		"Text, empty": func(b []byte) []byte { return Text(b, "") },
		"All":         func(b []byte) []byte { return All(b, -1, -2) },
		"All of none": func(b []byte) []byte { return All(b) },
	}
	for name, write := range writes {
		room := bytes.Repeat([]byte{7}, 100)
		first, second := write(room[:10]), write(room[:10])
		clear(second[:cap(second)])
		if !bytes.HasPrefix(first, room[:10]) {
			t.Errorf("%s: two answers share memory, or b is not ahead", name)
		}
		if clear(first[:cap(first)]); !bytes.Equal(room, bytes.Repeat([]byte{7}, 100)) {
			t.Errorf("%s: what was handed in was changed", name)
		}
	}
	numbers := []int64{1, 2, 3, 4}
	All(nil, numbers[:2]...)
	if !slices.Equal(numbers, []int64{1, 2, 3, 4}) {
		t.Errorf("All: the numbers were changed")
	}
	b := Text(I64(nil, 5), "ab")
	r := Read(b)
	clear(b)
	if r.I64() != 5 || r.Text(2) != "ab" || !r.End() {
		t.Errorf("Read keeps what it was handed")
	}
}

// R1: whatever the bytes and the reads, all of it ends, and Bad stays.
func FuzzReads(f *testing.F) {
	f.Add([]byte{}, []byte{0})
	f.Add(Text(nil, "ab"), []byte{1, 2})
	f.Add(All(nil, 1, -1), []byte{2, 0, 1})
	f.Fuzz(func(t *testing.T, b, reads []byte) {
		r, at := Read(b), 0
		for _, read := range reads {
			bad := r.Bad()
			switch most := int(read/3) - 2; read % 3 {
			case 0:
				if v := r.I64(); !r.Bad() && !bytes.Equal(eight(v), b[at:at+8]) {
					t.Fatalf("I64: %d", v)
				}
				at += 8
			case 1:
				if n := r.Count(most); r.Bad() && n != 0 || !r.Bad() && (n < 0 || n > most) {
					t.Fatalf("Count(%d): %d", most, n)
				}
				at += 8
			case 2:
				s := r.Text(most)
				if r.Bad() && s != "" || !r.Bad() && (len(s) > most || s != string(b[at+8:at+8+len(s)])) {
					t.Fatalf("Text(%d): %q", most, s)
				}
				at += 8 + len(s)
			}
			if bad && !r.Bad() || r.End() != (!r.Bad() && at == len(b)) {
				t.Fatalf("Bad %v, End %v at %d of %d", r.Bad(), r.End(), at, len(b))
			}
		}
	})
}
