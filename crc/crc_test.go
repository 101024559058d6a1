package crc

import (
	"bytes"
	"go/ast"
	"go/parser"
	"go/token"
	"hash/crc32"
	"math/bits"
	"slices"
	"strings"
	"testing"
)

// some makes n bytes that have no short period.
func some(n int) []byte {
	b := make([]byte, n)
	x := uint32(n)*2654435761 + 1
	for i := range b {
		x = x*1664525 + 1013904223
		b[i] = byte(x >> 24)
	}
	return b
}

// divided is the sum by the promise's own words: the bits of all bytes, each byte's lowest first, as a list that is
// begun with all ones, and divided one by one.
func divided(b []byte) uint32 {
	var stream []bool
	for _, c := range b {
		for i := range 8 {
			stream = append(stream, c>>i&1 == 1)
		}
	}
	rest := uint32(0xFFFFFFFF)
	straight := bits.Reverse32(0xEDB88320)
	for _, one := range stream {
		out := rest>>31 == 1
		rest <<= 1
		if out != one {
			rest ^= straight
		}
	}
	return ^bits.Reverse32(rest)
}

// P3.1: the chapter's numbers, and others that are known.
func TestKnown(t *testing.T) {
	for _, c := range []struct {
		text string
		want uint32
	}{
		{"", 0},
		{"123456789", 3421780262},
		{"a", 0xE8B7BE43},
		{"abc", 0x352441C2},
		{"The quick brown fox jumps over the lazy dog", 0x414FA339},
		{"\x00", 0xD202EF8D},
		{"\xff", 0xFF000000},
		{"\x00\x00\x00\x00", 0x2144DF1C},
		{"\xff\xff\xff\xff", 0xFFFFFFFF},
		{strings.Repeat("\x00", 32), 0x190A55AD},
		{strings.Repeat("\xff", 32), 0xFF6CAB0B},
	} {
		if got := Of([]byte(c.text)); got != c.want {
			t.Errorf("Of %q: %#x, not %#x", c.text, got, c.want)
		}
	}
}

// P3.1: no parts, nil, and empty parts, alone and among others.
func TestNothing(t *testing.T) {
	for name, got := range map[string]uint32{
		"no parts":         Of(),
		"no parts, a list": Of([][]byte{}...),
		"nil parts":        Of([][]byte(nil)...),
		"one nil part":     Of(nil),
		"one empty part":   Of([]byte{}),
		"several":          Of(nil, []byte{}, nil, make([]byte, 0, 9)),
	} {
		if got != 0 {
			t.Errorf("%s: %d, not 0", name, got)
		}
	}
	if got := Of(nil, []byte("1234"), nil, []byte{}, []byte("56789"), nil); got != 3421780262 {
		t.Errorf("empty parts among others: %d", got)
	}
	if Of(nil, []byte{0}) != Of([]byte{0}) || Of([]byte{0}, nil) != Of([]byte{0}) || Of([]byte{0}) == Of() {
		t.Errorf("one byte 0 with nil parts")
	}
}

// P3.1: each single byte, ahead of others and behind them.
func TestEachByte(t *testing.T) {
	seen := map[uint32]int{}
	for c := range 256 {
		for _, b := range [][]byte{{byte(c)}, {byte(c), 1, 2}, {1, 2, byte(c)}, {0, byte(c)}, {255, byte(c)}} {
			if got := Of(b); got != divided(b) || got != crc32.ChecksumIEEE(b) {
				t.Fatalf("Of %v: %#x", b, got)
			}
		}
		seen[Of([]byte{byte(c)})]++
	}
	if len(seen) != 256 {
		t.Errorf("256 bytes have %d sums", len(seen))
	}
}

// P3.1: bytes of several lengths, by the promise's words and by the library's.
func TestLengths(t *testing.T) {
	for n := range 300 {
		if b := some(n); Of(b) != divided(b) || Of(b) != crc32.ChecksumIEEE(b) {
			t.Fatalf("Of %d bytes: %#x", n, Of(b))
		}
	}
	for _, n := range []int{1023, 1024, 1025, 4096, 65535, 65536, 65537, 1 << 20} {
		if b := some(n); Of(b) != crc32.ChecksumIEEE(b) {
			t.Errorf("Of %d bytes: %#x", n, Of(b))
		}
	}
}

// P3.1: the same bytes, cut at every place, have the same sum.
func TestCut(t *testing.T) {
	for _, n := range []int{1, 2, 3, 9, 40} {
		b := some(n)
		want := crc32.ChecksumIEEE(b)
		for i := range n + 1 {
			if Of(b[:i], b[i:]) != want {
				t.Fatalf("%d bytes, cut at %d", n, i)
			}
			for j := i; j <= n; j++ {
				if Of(b[:i], b[i:j], b[j:]) != want || Of(nil, b[:i], nil, b[i:j], b[j:], nil) != want {
					t.Fatalf("%d bytes, cut at %d and %d", n, i, j)
				}
			}
		}
		for size := 1; size <= n; size++ {
			if parts := slices.Collect(slices.Chunk(b, size)); Of(parts...) != want {
				t.Fatalf("%d bytes in parts of %d", n, size)
			}
		}
	}
}

// P3.1: very many parts.
func TestManyParts(t *testing.T) {
	b := some(1 << 16)
	if Of(slices.Collect(slices.Chunk(b, 1))...) != crc32.ChecksumIEEE(b) {
		t.Errorf("%d parts of one byte", len(b))
	}
}

// P3.1: one bit more or less, and another order, is another sum.
func TestDiffers(t *testing.T) {
	b := some(64)
	want := Of(b)
	for i := range b {
		for bit := range 8 {
			other := slices.Clone(b)
			other[i] ^= 1 << bit
			if Of(other) == want {
				t.Errorf("byte %d, bit %d: the same sum", i, bit)
			}
		}
		if i > 0 && b[i] != b[i-1] {
			other := slices.Clone(b)
			other[i], other[i-1] = other[i-1], other[i]
			if Of(other) == want {
				t.Errorf("bytes %d and %d changed about: the same sum", i-1, i)
			}
		}
	}
	for c := range 256 {
		if c1, c2 := []byte{byte(c)}, []byte{byte(255 - c)}; Of(c1, c2) == Of(c2, c1) {
			t.Errorf("parts %v and %v changed about: the same sum", c1, c2)
		}
	}
	for n := range 64 {
		if Of(make([]byte, n)) == Of(make([]byte, n+1)) {
			t.Errorf("%d noughts and one more: the same sum", n)
		}
	}
}

// R4, R5: no part is changed, nor the list of parts, nor the room behind them; asked again the sum is the same.
func TestPartsStay(t *testing.T) {
	room := some(40)
	before := slices.Clone(room)
	list := make([][]byte, 3, 5)
	list[0], list[1], list[2] = room[:10:20], room[5:15], room[20:20]
	first := Of(list...)
	if second := Of(list...); first != second || first != crc32.ChecksumIEEE(slices.Concat(before[:10], before[5:15])) {
		t.Errorf("parts that overlap: %#x, then %#x", first, second)
	}
	if !bytes.Equal(room, before) {
		t.Errorf("bytes were changed")
	}
	for i, want := range []int{10, 10, 0, 0, 0} {
		if len(list[:5][i]) != want {
			t.Errorf("the list of parts was changed at %d", i)
		}
	}
	room[0]++
	if Of(list...) == first {
		t.Errorf("the sum is not of the bytes as they are now")
	}
}

// P3.1: no table is kept in a variable: there is none at package level, and no list or array anywhere in the text.
func TestNoTable(t *testing.T) {
	file, err := parser.ParseFile(token.NewFileSet(), "crc.go", nil, 0)
	if err != nil {
		t.Fatal(err)
	}
	ast.Inspect(file, func(n ast.Node) bool {
		switch n := n.(type) {
		case *ast.GenDecl:
			if n.Tok == token.VAR {
				t.Errorf("a variable is declared by var")
			}
		case *ast.CompositeLit:
			t.Errorf("a table is written out")
		case *ast.Ident:
			if n.Name == "make" || n.Name == "new" || n.Name == "append" {
				t.Errorf("memory is asked for by %s", n.Name)
			}
		}
		return true
	})
}

// P3.1: any bytes, cut at any two places.
func FuzzOf(f *testing.F) {
	f.Add([]byte("123456789"), 3, 5)
	f.Add([]byte{}, 0, 0)
	f.Add([]byte{0, 255}, -1, 9)
	f.Fuzz(func(t *testing.T, b []byte, i, j int) {
		i = min(max(i, 0), len(b))
		j = min(max(j, i), len(b))
		want := crc32.ChecksumIEEE(b)
		if Of(b) != want || Of(b[:i], b[i:j], b[j:]) != want {
			t.Errorf("Of %v, cut at %d and %d", b, i, j)
		}
	})
}
