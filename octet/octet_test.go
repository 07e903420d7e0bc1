package octet_test

import (
	"bytes"
	"math"
	"slices"
	"testing"

	"bazaar/octet"
)

// port is a number of the caller's own kind.
type port uint16

// row is n bytes of which no two neighbours are the same.
func row(n int) []byte {
	b := make([]byte, n)
	for i := range b {
		b[i] = byte(i*37 + 129)
	}
	return b
}

func checkGet[T octet.Uint](t *testing.T, b []byte, at int, want T, wantOK bool) {
	t.Helper()
	before := bytes.Clone(b)
	got, ok := octet.Get[T](b, at)
	if got != want || ok != wantOK {
		t.Errorf("Get[%T](%v, %d) = %#x, %v; want %#x, %v", want, b, at, got, ok, want, wantOK)
	}
	if !bytes.Equal(b, before) {
		t.Errorf("Get[%T](.., %d) has changed what was handed in: %v, was %v", want, at, b, before)
	}
}

// P1.1: the high byte first, as many bytes as the kind has.
func TestGet(t *testing.T) {
	b := []byte{0x81, 0x92, 0xa3, 0xb4, 0xc5, 0xd6, 0xe7, 0xf8, 0x09}
	checkGet[uint8](t, b, 0, 0x81, true)
	checkGet[uint16](t, b, 0, 0x8192, true)
	checkGet[uint32](t, b, 0, 0x8192a3b4, true)
	checkGet[uint64](t, b, 0, 0x8192a3b4c5d6e7f8, true)
	checkGet[uint8](t, b, 8, 0x09, true)
	checkGet[uint16](t, b, 7, 0xf809, true)
	checkGet[uint32](t, b, 5, 0xd6e7f809, true)
	checkGet[uint64](t, b, 1, 0x92a3b4c5d6e7f809, true)
	checkGet[port](t, b, 3, 0xb4c5, true)
	checkGet[uint16](t, []byte{0, 7}, 0, 7, true)
}

// P1.1: false, with the number 0, where the bytes are not all there.
func TestGetOutside(t *testing.T) {
	b := row(9)
	for _, at := range []int{-1, -2, -8, -9, math.MinInt, math.MinInt + 1, math.MaxInt, math.MaxInt - 1, math.MaxInt - 8, 10} {
		checkGet[uint8](t, b, at, 0, false)
		checkGet[uint16](t, b, at, 0, false)
		checkGet[uint32](t, b, at, 0, false)
		checkGet[uint64](t, b, at, 0, false)
	}
	checkGet[uint8](t, b, 9, 0, false)
	checkGet[uint16](t, b, 8, 0, false)
	checkGet[uint32](t, b, 6, 0, false)
	checkGet[uint64](t, b, 2, 0, false)
	checkGet[port](t, b, 8, 0, false)
	for _, none := range [][]byte{nil, {}} {
		checkGet[uint8](t, none, 0, 0, false)
		checkGet[uint64](t, none, 0, 0, false)
	}
	checkGet[uint64](t, row(7), 0, 0, false)
}

// P1.1: bytes that are spare room behind b are not b's.
func TestGetSpareRoom(t *testing.T) {
	b := row(16)[:3]
	checkGet[uint32](t, b, 0, 0, false)
	checkGet[uint8](t, b, 3, 0, false)
}

func checkPut[T octet.Uint](t *testing.T, n, at int, v T, bytesOf ...byte) {
	t.Helper()
	whole := row(n + 16)
	b, want := whole[:n], bytes.Clone(whole)
	wantOK := len(bytesOf) > 0
	if wantOK {
		copy(want[at:], bytesOf)
	}
	if ok := octet.Put(b, at, v); ok != wantOK {
		t.Errorf("Put(%d bytes, %d, %T %#x) = %v; want %v", n, at, v, v, ok, wantOK)
	}
	if !bytes.Equal(whole, want) {
		t.Errorf("Put(%d bytes, %d, %T %#x):\n got %v\nwant %v", n, at, v, v, whole, want)
	}
}

// P1.1: just the number's bytes are written, into b itself.
func TestPut(t *testing.T) {
	checkPut(t, 12, 0, uint8(0xfe), 0xfe)
	checkPut(t, 12, 1, uint16(0x8192), 0x81, 0x92)
	checkPut(t, 12, 2, uint32(0x8192a3b4), 0x81, 0x92, 0xa3, 0xb4)
	checkPut(t, 12, 3, uint64(0x8192a3b4c5d6e7f8), 0x81, 0x92, 0xa3, 0xb4, 0xc5, 0xd6, 0xe7, 0xf8)
	checkPut(t, 12, 4, port(80), 0, 80)
	checkPut(t, 12, 11, uint8(3), 3)
	checkPut(t, 12, 10, uint16(3), 0, 3)
	checkPut(t, 12, 8, uint32(3), 0, 0, 0, 3)
	checkPut(t, 12, 4, uint64(3), 0, 0, 0, 0, 0, 0, 0, 3)
	checkPut(t, 12, 0, uint64(0), 0, 0, 0, 0, 0, 0, 0, 0)
}

// P1.1: where there is no room nothing is written, not even a part, nor the spare room.
func TestPutOutside(t *testing.T) {
	for _, at := range []int{-1, -7, math.MinInt, math.MinInt + 1, math.MaxInt, math.MaxInt - 1, math.MaxInt - 7, 13} {
		checkPut(t, 12, at, uint8(1))
		checkPut(t, 12, at, uint16(0x0102))
		checkPut(t, 12, at, uint32(0x01020304))
		checkPut(t, 12, at, uint64(0x0102030405060708))
	}
	checkPut(t, 12, 12, uint8(1))
	checkPut(t, 12, 11, uint16(0x0102))
	checkPut(t, 12, 9, uint32(0x01020304))
	checkPut(t, 12, 5, uint64(0x0102030405060708))
	checkPut(t, 0, 0, uint8(1))
	checkPut(t, 7, 0, uint64(0x0102030405060708))
	if octet.Put(nil, 0, uint8(1)) {
		t.Error("Put into nil: true")
	}
}

func checkAppend[T octet.Uint](t *testing.T, b []byte, v T, want ...byte) {
	t.Helper()
	room := bytes.Clone(b[:cap(b)])
	out := octet.Append(b, v)
	if !bytes.Equal(out, want) {
		t.Errorf("Append(%v, %T %#x) = %v; want %v", b, v, v, out, want)
	}
	for i := range out {
		out[i]++
	}
	clear(out[len(out):cap(out)])
	if !bytes.Equal(b[:cap(b)], room) {
		t.Errorf("Append(.., %T %#x): what was handed in, or its spare room, is %v, was %v", v, v, b[:cap(b)], room)
	}
}

// P1.1: b and the number's bytes, as new memory.
func TestAppend(t *testing.T) {
	full := []byte{1, 2}
	spare := []byte{1, 2, 50, 51, 52, 53, 54, 55, 56, 57, 58}[:2]
	for _, b := range [][]byte{full, spare} {
		checkAppend(t, b, uint8(0x81), 1, 2, 0x81)
		checkAppend(t, b, uint16(0x8192), 1, 2, 0x81, 0x92)
		checkAppend(t, b, uint32(0x8192a3b4), 1, 2, 0x81, 0x92, 0xa3, 0xb4)
		checkAppend(t, b, uint64(0x8192a3b4c5d6e7f8), 1, 2, 0x81, 0x92, 0xa3, 0xb4, 0xc5, 0xd6, 0xe7, 0xf8)
		checkAppend(t, b, port(7), 1, 2, 0, 7)
	}
	checkAppend(t, nil, uint16(5), 0, 5)
	checkAppend(t, []byte{}, uint8(5), 5)
	checkAppend(t, spare[:0], uint32(5), 0, 0, 0, 5)
}

// P1.1: two that are put behind the same bytes have nothing in common.
func TestAppendTwice(t *testing.T) {
	b := make([]byte, 1, 64)
	one := octet.Append(b, uint16(0x0102))
	two := octet.Append(b, uint16(0x0304))
	if !bytes.Equal(one, []byte{0, 1, 2}) || !bytes.Equal(two, []byte{0, 3, 4}) {
		t.Errorf("got %v and %v", one, two)
	}
}

func checkRound[T octet.Uint](t *testing.T, v T) {
	t.Helper()
	for n := range 20 {
		for at := -2; at < n+2; at++ {
			b := row(n)
			put := octet.Put(b, at, v)
			got, ok := octet.Get[T](b, at)
			if put != ok || ok && got != v || !ok && got != 0 {
				t.Errorf("Put of %T %#x at %d of %d bytes: %v, Get: %#x, %v", v, v, at, n, put, got, ok)
			}
		}
		got, ok := octet.Get[T](octet.Append(row(n), v), n)
		if got != v || !ok {
			t.Errorf("Append of %T %#x to %d bytes, Get: %#x, %v", v, v, n, got, ok)
		}
	}
}

// P1.3: Get of Put is v.
func TestGetOfPut(t *testing.T) {
	for _, v := range []uint64{0, 1, 0x80, 0xff, 0x100, 0x8000, 0xfffe, 1 << 31, 1<<32 - 1, 1 << 63, 0x0123456789abcdef, math.MaxUint64} {
		checkRound(t, uint8(v))
		checkRound(t, uint16(v))
		checkRound(t, uint32(v))
		checkRound(t, v)
		checkRound(t, port(v))
	}
}

// pair is a word with its place.
type pair struct {
	at   int
	word uint16
}

// words is the first most words of b; all of them, if most is below 0.
func words(seq func(func(int, uint16) bool), most int) []pair {
	var out []pair
	for at, w := range seq {
		if len(out) == most {
			break
		}
		out = append(out, pair{at, w})
	}
	return out
}

// P1.2: each two bytes with their place; the last one of an odd row with a byte 0 behind.
func TestWords(t *testing.T) {
	for _, c := range []struct {
		b    []byte
		want []pair
	}{
		{nil, nil},
		{[]byte{}, nil},
		{[]byte{9}, []pair{{0, 0x0900}}},
		{[]byte{9, 8}, []pair{{0, 0x0908}}},
		{[]byte{1, 2, 3}, []pair{{0, 258}, {2, 768}}},
		{[]byte{0xff, 0xfe, 0, 0, 0x80, 1}, []pair{{0, 0xfffe}, {2, 0}, {4, 0x8001}}},
		{[]byte{0, 1, 0, 2, 0xff}, []pair{{0, 1}, {2, 2}, {4, 0xff00}}},
	} {
		before := bytes.Clone(c.b)
		if got := words(octet.Words(c.b), -1); !slices.Equal(got, c.want) {
			t.Errorf("Words(%v) = %v; want %v", c.b, got, c.want)
		}
		if !bytes.Equal(c.b, before) {
			t.Errorf("Words has changed what was handed in: %v, was %v", c.b, before)
		}
	}
}

// P1.2: the byte behind an odd row is 0, whatever stands in the spare room, and that stays.
func TestWordsSpareRoom(t *testing.T) {
	whole := []byte{1, 2, 3, 77, 78}
	if got, want := words(octet.Words(whole[:3]), -1), []pair{{0, 258}, {2, 768}}; !slices.Equal(got, want) {
		t.Errorf("got %v, want %v", got, want)
	}
	if !bytes.Equal(whole, []byte{1, 2, 3, 77, 78}) {
		t.Errorf("the spare room has changed: %v", whole)
	}
}

// P1.2: a walk may be left off at any place, and begun anew, from the front each time, one within another too.
func TestWordsLeftOff(t *testing.T) {
	seq := octet.Words([]byte{1, 2, 3, 4, 5})
	all := []pair{{0, 0x0102}, {2, 0x0304}, {4, 0x0500}}
	for most := range len(all) + 1 {
		if got := words(seq, most); !slices.Equal(got, all[:most]) {
			t.Errorf("left off behind %d: %v", most, got)
		}
		if got := words(seq, -1); !slices.Equal(got, all) {
			t.Errorf("begun anew, left off behind %d ahead of it: %v", most, got)
		}
	}
	n := 0
	for range seq {
		for range seq {
			n++
		}
	}
	if n != 9 {
		t.Errorf("one walk within another: %d, want 9", n)
	}
}

// P1.2: what is handed in is not kept: a walk tells the bytes that Words was given.
func TestWordsNotKept(t *testing.T) {
	b := []byte{1, 2, 3, 4}
	seq := octet.Words(b)
	clear(b)
	want := []pair{{0, 0x0102}, {2, 0x0304}}
	if got := words(seq, -1); !slices.Equal(got, want) {
		t.Errorf("got %v, want %v", got, want)
	}
}

// P1.2: how many bytes from the front on are the same.
func TestSame(t *testing.T) {
	for _, c := range []struct {
		a, b string
		want int
	}{
		{"", "", 0}, {"a", "", 0}, {"a", "a", 1}, {"a", "b", 0}, {"ab", "ac", 1},
		{"abc", "abc", 3}, {"abc", "abcd", 3}, {"abcd", "xbcd", 0}, {"abxd", "abyd", 2},
		{"\x00\x00", "\x00", 1}, {"\x00", "", 0}, {"\xff\x00", "\xff\x80", 1},
	} {
		a, b := []byte(c.a), []byte(c.b)
		if got := octet.Same(a, b); got != c.want {
			t.Errorf("Same(%q, %q) = %d; want %d", c.a, c.b, got, c.want)
		}
		if got := octet.Same(b, a); got != c.want {
			t.Errorf("Same(%q, %q) = %d; want %d", c.b, c.a, got, c.want)
		}
		if string(a) != c.a || string(b) != c.b {
			t.Errorf("Same(%q, %q) has changed what was handed in: %q, %q", c.a, c.b, a, b)
		}
	}
	if octet.Same(nil, nil) != 0 || octet.Same(nil, []byte{0}) != 0 {
		t.Error("Same of nil is above 0")
	}
	long := row(5000)
	other := bytes.Clone(long)
	other[4321]++
	if got := octet.Same(long, other); got != 4321 {
		t.Errorf("Same of long rows = %d; want 4321", got)
	}
	whole := []byte{1, 2, 3, 4}
	if got := octet.Same(whole[:2], whole); got != 2 {
		t.Errorf("Same of a row and its front = %d; want 2", got)
	}
}
