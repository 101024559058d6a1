package frame

import (
	"bytes"
	"encoding/binary"
	"hash/crc32"
	"math"
	"slices"
	"testing"

	"aviary/api"
)

// some makes n bytes that have no short period.
func some(n int) []byte {
	b := make([]byte, n)
	x := uint32(n)*2654435761 + 1
	for i := range b {
		x = x*1664525 + 1013904223
		b[i] = byte(x >> 24)
	}
	return b
}

// made makes a frame of any numbers, by the library's own rule.
func made(length, turned, sum uint32, rec []byte) []byte {
	var b []byte
	for _, v := range []uint32{length, turned, sum} {
		b = binary.BigEndian.AppendUint32(b, v)
	}
	return append(b, rec...)
}

// summed makes a frame of any two numbers whose sum is right.
func summed(length, turned uint32, rec []byte) []byte {
	numbers := made(length, turned, 0, nil)[:8]
	return made(length, turned, crc32.ChecksumIEEE(slices.Concat(numbers, rec)), rec)
}

// right makes a whole frame.
func right(rec []byte) []byte { return summed(uint32(len(rec)), ^uint32(len(rec)), rec) }

// texts makes records of texts.
func texts(list ...string) [][]byte {
	var recs [][]byte
	for _, s := range list {
		recs = append(recs, []byte(s))
	}
	return recs
}

// frames makes whole frames, one behind the other.
func frames(recs ...[]byte) []byte {
	var b []byte
	for _, rec := range recs {
		b = append(b, right(rec)...)
	}
	return b
}

// want asks that a scan of b finds these records, so many bytes, and this end.
func want(t *testing.T, name string, b []byte, recs [][]byte, used, how int) {
	t.Helper()
	gotRecs, gotUsed, gotHow := Scan(b)
	if gotUsed != used || gotHow != how || !slices.EqualFunc(gotRecs, recs, bytes.Equal) {
		t.Errorf("%s: %d records %.80q, %d, %d; not %d records %.80q, %d, %d",
			name, len(gotRecs), gotRecs, gotUsed, gotHow, len(recs), recs, used, how)
	}
}

// behind asks the same of b alone, behind one frame and behind several: what stands ahead is told all the same.
func behind(t *testing.T, name string, b []byte, recs [][]byte, used, how int) {
	t.Helper()
	for _, ahead := range [][][]byte{nil, texts("one"), texts(""), texts("one", "", "three"), {some(20000), some(1)}} {
		all := frames(ahead...)
		want(t, name, slices.Concat(all, b), slices.Concat(ahead, recs), len(all)+used, how)
	}
}

// P4.1: Put's frame, byte for byte, and by the library's sum.
func TestPut(t *testing.T) {
	got, e := Put(nil, []byte("ab"))
	if e != api.OK || !bytes.Equal(got[:8], []byte{0, 0, 0, 2, 255, 255, 255, 253}) || string(got[12:]) != "ab" {
		t.Errorf("of ab: %v, %d", got, e)
	}
	if sum := crc32.ChecksumIEEE([]byte("\x00\x00\x00\x02\xff\xff\xff\xfdab")); binary.BigEndian.Uint32(got[8:]) != sum {
		t.Errorf("of ab: the sum is %v, not %#x", got[8:12], sum)
	}
	for _, ahead := range [][]byte{nil, {}, {0}, []byte("x"), some(7), some(12), some(1000), right([]byte("one"))} {
		for _, n := range []int{0, 1, 2, 5, 11, 12, 13, 255, 256, 257, 4096, 19999, 20000} {
			rec := some(n)
			if got, e := Put(ahead, rec); e != api.OK || !bytes.Equal(got, slices.Concat(ahead, right(rec))) {
				t.Errorf("of %d bytes behind %d: %d bytes, %d", n, len(ahead), len(got), e)
			}
		}
	}
}

// P4.1: an empty record is one, and nil and an empty list are one.
func TestPutNothing(t *testing.T) {
	plain := append([]byte{0, 0, 0, 0, 255, 255, 255, 255}, 255, 255, 255, 255)
	binary.BigEndian.PutUint32(plain[8:], crc32.ChecksumIEEE(plain[:8]))
	for name, rec := range map[string][]byte{"nil": nil, "empty": {}, "empty, with room": make([]byte, 0, 9)} {
		for _, b := range [][]byte{nil, {}, make([]byte, 0, 40)} {
			if got, e := Put(b, rec); e != api.OK || !bytes.Equal(got, plain) {
				t.Errorf("%s: %v, %d", name, got, e)
			}
		}
		if got, e := Put([]byte("x"), rec); e != api.OK || !bytes.Equal(got, append([]byte("x"), plain...)) {
			t.Errorf("%s behind x: %v, %d", name, got, e)
		}
	}
}

// P4.1: a record of 20000 bytes is well, one byte more is ELIMIT and nothing, whatever is ahead.
func TestPutLimit(t *testing.T) {
	for _, ahead := range [][]byte{nil, []byte("x"), some(20000), some(30000)} {
		if got, e := Put(ahead, some(20000)); e != api.OK || len(got) != len(ahead)+20012 {
			t.Errorf("the longest behind %d: %d bytes, %d", len(ahead), len(got), e)
		}
		for _, n := range []int{20001, 20002, 20012, 65536, 65537, 1 << 20} {
			if got, e := Put(ahead, some(n)); e != api.ELIMIT || len(got) != 0 {
				t.Errorf("%d bytes behind %d: %d bytes, %d", n, len(ahead), len(got), e)
			}
		}
	}
	if got, e := Put(nil, make([]byte, 10, 30000)); e != api.OK || len(got) != 22 {
		t.Errorf("spare room is counted: %d bytes, %d", len(got), e)
	}
}

// P4.1: what Put has put, one behind the other, Scan finds.
func TestPutThenScan(t *testing.T) {
	var b []byte
	var recs [][]byte
	for n := range 200 {
		rec := some(n * 7 % 101)
		recs = append(recs, rec)
		var e api.Errno
		if b, e = Put(b, rec); e != api.OK {
			t.Fatal(e)
		}
		want(t, "Put's", b, recs, len(b), 0)
	}
}

// P4.1: the document's examples, and whole frames.
func TestScanWhole(t *testing.T) {
	want(t, "nil", nil, nil, 0, 0)
	want(t, "empty", []byte{}, nil, 0, 0)
	want(t, "empty, with room", right([]byte("one"))[:0], nil, 0, 0)
	behind(t, "nothing", nil, nil, 0, 0)
	for _, recs := range [][][]byte{
		texts("a"), texts(""), texts("one", "two"), texts("", "", ""), texts("a", "", "a", "a"), texts("\x00\x00\x00\x00\x00\x00\x00\x00\x00\x00\x00\x00"),
		{right([]byte("a frame in a frame"))}, {some(20000)}, {some(20000), some(20000), nil}, {some(19999)},
	} {
		b := frames(recs...)
		behind(t, "whole", b, recs, len(b), 0)
	}
}

// P4.1: very many frames.
func TestScanMany(t *testing.T) {
	recs := make([][]byte, 100000)
	b := bytes.Repeat(right(nil), len(recs))
	want(t, "many", b, recs, len(b), 0)
}

// P4.1: frames that are cut off at every place are torn, but between two of them.
func TestScanTorn(t *testing.T) {
	recs := slices.Concat(texts("one", "", "a longer one", ""), [][]byte{some(300)}, texts("x"))
	b := frames(recs...)
	ends := map[int]int{0: 0}
	for i := range recs {
		ends[len(frames(recs[:i+1]...))] = i + 1
	}
	whole, used := 0, 0
	for n := range len(b) + 1 {
		how := 1
		if count, ok := ends[n]; ok {
			whole, used, how = count, n, 0
		}
		want(t, "cut off", b[:n], recs[:whole], used, how)
		want(t, "cut off, no room", slices.Clip(slices.Clone(b[:n])), recs[:whole], used, how)
	}
}

// P4.1: fewer than 12 bytes are torn, whatever they are.
func TestScanFewerThanTwelve(t *testing.T) {
	for n := 1; n < 12; n++ {
		for _, fill := range []byte{0, 1, 127, 128, 255} {
			behind(t, "few", bytes.Repeat([]byte{fill}, n), nil, 0, 1)
		}
		behind(t, "few, some", some(n), nil, 0, 1)
		behind(t, "few, above 20000", summed(20001, ^uint32(20001), nil)[:n], nil, 0, 1)
	}
	want(t, "twelve noughts", make([]byte, 12), nil, 0, 2)
	for _, fill := range []byte{0, 1, 127, 128, 255} {
		behind(t, "twelve", bytes.Repeat([]byte{fill}, 12), nil, 0, 2)
	}
	behind(t, "twelve, whole", right(nil), texts(""), 12, 0)
}

// P4.1: each bit of a frame turned, and each byte another one: broken, and what is behind it is not read.
func TestScanBroken(t *testing.T) {
	for _, rec := range [][]byte{nil, []byte("a"), []byte("hello"), some(40), some(255), some(256)} {
		for i := range right(rec) {
			for mask := 1; mask < 256; mask++ {
				// All masks at the head, one bit each in the record.
				if i >= 12 && mask&(mask-1) != 0 {
					continue
				}
				b := right(rec)
				b[i] ^= byte(mask)
				want(t, "turned", b, nil, 0, 2)
				want(t, "turned, between", slices.Concat(frames(texts("one", "")...), b, right([]byte("last"))), texts("one", ""), 27, 2)
			}
		}
	}
}

// P4.1: the second number is the first one with all bits turned, or it is broken, though the sum is right.
func TestScanNumbers(t *testing.T) {
	for _, n := range []uint32{0, 1, 4, 255, 256, 19999, 20000} {
		rec := some(int(n))
		behind(t, "turned", summed(n, ^n, rec), [][]byte{rec}, 12+int(n), 0)
		for _, second := range []uint32{n, -n, ^n - 1, ^n + 1, ^n ^ 0x80000000, ^n ^ 0x8000, ^n & 0xffff, ^n << 16, n ^ 0xff, 0x12345678} {
			behind(t, "not turned", summed(n, second, rec), nil, 0, 2)
		}
	}
}

// P4.1: a frame may tell 20000, and not more, though all else of it is right and there.
func TestScanLimit(t *testing.T) {
	for _, n := range []uint32{20001, 20002, 65535, 65536, 65536 + 4, 1 << 20} {
		behind(t, "above", right(some(int(n))), nil, 0, 2)
	}
	for _, n := range []uint32{20001, 40000, 1 << 16, 1 << 24, math.MaxInt32 - 11, math.MaxInt32, 1 << 31, math.MaxUint32 - 12, math.MaxUint32 - 11, math.MaxUint32} {
		for _, rec := range [][]byte{nil, []byte("a"), some(20000)} {
			behind(t, "above, too few", summed(n, ^n, rec), nil, 0, 2)
			behind(t, "above, too few, another sum", made(n, ^n, 1, rec), nil, 0, 2)
		}
	}
}

// P4.1: fewer bytes than its number are torn; just so many are whole; more belong to the next frame.
func TestScanTooFew(t *testing.T) {
	for _, n := range []int{1, 2, 12, 13, 300, 20000} {
		rec := some(n)
		b := right(rec)
		for _, missing := range []int{1, 2, 11, 12, 13, n - 1, n} {
			if missing > 0 && missing <= n {
				behind(t, "too few", b[:len(b)-missing], nil, 0, 1)
			}
		}
		behind(t, "just so many", b, [][]byte{rec}, len(b), 0)
		behind(t, "one more", append(b, 0), [][]byte{rec}, len(b), 1)
	}
}

// P4.1: the order in which it is asked: fewer than 12, the numbers, fewer bytes than that, the sum.
func TestScanOrder(t *testing.T) {
	four, much := uint32(4), uint32(20001)
	for _, c := range []struct {
		name string
		b    []byte
		how  int
	}{
		{"fewer than 12, numbers that are wrong", made(4, 4, 0, nil)[:11], 1},
		{"fewer than 12, above 20000", made(much, ^much, 0, nil)[:11], 1},
		{"fewer than 12, nothing but the numbers", made(4, 4, 0, nil)[:8], 1},
		{"not turned, too few", made(4, 4, 0, nil), 2},
		{"not turned, too few by one", made(4, 4, 0, []byte("abc")), 2},
		{"above 20000, too few", made(much, ^much, 0, nil), 2},
		{"above 20000 and not turned, too few", made(much, much, 0, nil), 2},
		{"too few, another sum", made(four, ^four, 1, []byte("abc")), 1},
		{"too few, another sum, no record", made(four, ^four, 1, nil), 1},
		{"20000, too few, another sum", made(20000, ^uint32(20000), 0, some(19999)), 1},
		{"20000, another sum", made(20000, ^uint32(20000), 0, some(20000)), 2},
		{"another sum", made(four, ^four, 1, []byte("abcd")), 2},
		{"another sum, more behind", made(four, ^four, 1, []byte("abcdefgh")), 2},
		{"the sum of the record alone", made(four, ^four, crc32.ChecksumIEEE([]byte("abcd")), []byte("abcd")), 2},
		{"the sum of the numbers alone", made(four, ^four, crc32.ChecksumIEEE(right([]byte("abcd"))[:8]), []byte("abcd")), 2},
		{"the sum turned", made(four, ^four, ^binary.BigEndian.Uint32(right([]byte("abcd"))[8:]), []byte("abcd")), 2},
	} {
		behind(t, c.name, c.b, nil, 0, c.how)
	}
}

// R4: Put changes nothing that is handed in, spare room included, and shares none of it.
func TestPutMemory(t *testing.T) {
	room := some(100)
	before := slices.Clone(room)
	for _, c := range []struct{ b, rec []byte }{
		{room[:10], room[50:60]}, {room[:10], room[5:15]}, {room[:0], room[:9]}, {room[:10], room[10:30]}, {room[:10], room[22:30]},
		{room[:10], nil}, {nil, room[:10]}, {room[:0], nil}, {room[:88:88], room[88:]},
	} {
		expected := slices.Concat(c.b, right(c.rec))
		first, e1 := Put(c.b, c.rec)
		second, e2 := Put(c.b, c.rec)
		if e1 != api.OK || e2 != api.OK || !bytes.Equal(first, expected) || !bytes.Equal(second, expected) {
			t.Errorf("of %d bytes behind %d: %v and %v", len(c.rec), len(c.b), first, second)
		}
		if clear(second[:cap(second)]); !bytes.Equal(first, expected) {
			t.Errorf("two answers share memory")
		}
		if clear(first[:cap(first)]); !bytes.Equal(room, before) {
			t.Fatalf("what was handed in was changed, or is shared")
		}
	}
	long := make([]byte, 20001, 20100)
	if Put(room[:10], long); !bytes.Equal(room, before) || !bytes.Equal(long[:20100], make([]byte, 20100)) {
		t.Errorf("a record that is too long: what was handed in was changed")
	}
}

// R4: Scan changes nothing that is handed in; what it answers shares nothing with it, nor with itself, nor is it kept.
func TestScanMemory(t *testing.T) {
	recs := slices.Concat(texts("one", "", "three"), [][]byte{some(40)}, texts(""), texts("three"))
	for _, tail := range [][]byte{nil, []byte("torn"), make([]byte, 12)} {
		room := slices.Concat(frames(recs...), tail, some(50))
		before := slices.Clone(room)
		b := room[:len(room)-50]
		got, used, how := Scan(b)
		again, _, _ := Scan(b)
		if !bytes.Equal(room, before) {
			t.Fatalf("what was handed in was changed")
		}
		for i := range got {
			full := got[i][:cap(got[i])]
			for j := range full {
				full[j] ^= 255
			}
			if !slices.EqualFunc(got[i+1:], recs[i+1:], bytes.Equal) || !slices.EqualFunc(again, recs, bytes.Equal) {
				t.Errorf("record %d shares memory with another one", i)
			}
		}
		if !bytes.Equal(room, before) {
			t.Errorf("records share memory with what was handed in")
		}
		for _, rec := range got[:cap(got)][len(got):] {
			if cap(rec) != 0 {
				t.Errorf("something stands in the spare room of the list")
			}
		}
		clear(room)
		if !slices.EqualFunc(again, recs, bytes.Equal) {
			t.Errorf("records change with what was handed in")
		}
		want(t, "asked again", before[:len(b)], recs, used, how)
	}
}

// R1, P4.1: whatever the bytes, what Scan finds is what Put puts, and the end is the one that the promise names.
func FuzzScan(f *testing.F) {
	f.Add([]byte{})
	f.Add(make([]byte, 12))
	f.Add(frames(texts("one", "")...))
	f.Add(frames(texts("one", "two")...)[:20])
	f.Add(made(4, ^uint32(4), 1, []byte("abcd")))
	f.Add(summed(20001, ^uint32(20001), nil))
	f.Fuzz(func(t *testing.T, b []byte) {
		recs, used, how := Scan(b)
		var again []byte
		for _, rec := range recs {
			var e api.Errno
			if again, e = Put(again, rec); e != api.OK {
				t.Fatalf("a record of %d bytes", len(rec))
			}
		}
		if used != len(again) || !bytes.Equal(again, b[:used]) {
			t.Fatalf("%d bytes are not those of the records", used)
		}
		if expected := ended(b[used:]); how != expected || how < 0 {
			t.Fatalf("ended with %d, not %d", how, expected)
		}
	})
}

// ended tells by the promise's words how a scan ends at these bytes, or -1, if it does not.
func ended(left []byte) int {
	switch {
	case len(left) == 0:
		return 0
	case len(left) < 12:
		return 1
	}
	length := int64(binary.BigEndian.Uint32(left))
	switch turned := int64(binary.BigEndian.Uint32(left[4:])); {
	case length+turned != math.MaxUint32 || length > 20000:
		return 2
	case int64(len(left)) < 12+length:
		return 1
	case !bytes.Equal(right(left[12 : 12+length])[8:12], left[8:12]):
		return 2
	}
	return -1
}
