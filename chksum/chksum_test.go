package chksum_test

import (
	"bytes"
	"slices"
	"testing"

	"bazaar/chksum"
)

const top = 65535

// wrapped is what sum is when it has gone round, told in another way: modulo 65535, but that only 0 itself is 0.
func wrapped(sum uint64) uint16 {
	if sum == 0 {
		return 0
	}
	return uint16((sum-1)%top + 1)
}

// total is start and the words of b, none of which is cut.
func total(b []byte, start uint32) uint64 {
	sum := uint64(start)
	for i, n := range b {
		if i%2 == 0 {
			sum += uint64(n) * 256
		} else {
			sum += uint64(n)
		}
	}
	return sum
}

// updated is Update, told in another way.
func updated(old, from, to uint16) uint16 {
	return top - wrapped(uint64(top-old)+uint64(top-from)+uint64(to))
}

// one tells whether two checksums are one, where 0 and 65535 are.
func one(a, b uint16) bool {
	return a%top == b%top
}

// noise answers rows of bytes, always the same ones.
type noise uint32

func (n *noise) row(size int) []byte {
	b := make([]byte, size)
	for i := range b {
		*n = *n*1664525 + 1013904223
		b[i] = byte(*n >> 24)
	}
	return b
}

func (n *noise) word() uint16 {
	b := n.row(2)
	return uint16(b[0])<<8 | uint16(b[1])
}

// edges is words at which a sum just goes round, or just not.
func edges() []uint16 {
	return []uint16{0, 1, 2, 0xff, 0x100, 0x5555, 0x7ffe, 0x7fff, 0x8000, 0x8001, 0xaaaa, 0xff00, 0xfffd, 0xfffe, 0xffff}
}

// header is IPv4's, whose checksum is b861.
func header() []byte {
	return []byte{0x45, 0, 0, 0x73, 0, 0, 0x40, 0, 0x40, 0x11, 0, 0, 0xc0, 0xa8, 0, 1, 0xc0, 0xa8, 0, 0xc7}
}

// front is as much of a row as is worth telling.
func front(b []byte) []byte {
	return b[:min(len(b), 20)]
}

func checkSum(t *testing.T, b []byte, start uint32, want uint16) {
	t.Helper()
	before := bytes.Clone(b[:cap(b)])
	if got := chksum.Sum(b, start); got != want {
		t.Errorf("Sum of %d bytes %v .., from %#x on: %#x; want %#x", len(b), front(b), start, got, want)
	}
	if !bytes.Equal(b[:cap(b)], before) {
		t.Errorf("Sum of %d bytes %v .. has changed what was handed in, or its spare room", len(before), front(before))
	}
}

// P3.1: the words of a row, added.
func TestSum(t *testing.T) {
	checkSum(t, []byte{0, 1, 242, 3}, 0, 0xf204)
	checkSum(t, []byte{0, 0}, 0, 0)
	checkSum(t, []byte{1, 2}, 0, 0x0102)
	checkSum(t, []byte{1, 2}, 0x0304, 0x0406)
	checkSum(t, []byte{0x12, 0x34, 0x56, 0x78, 0x01, 0x02}, 5, 0x69b3)
	checkSum(t, []byte{0xff, 0xff}, 0, 0xffff)
	checkSum(t, header(), 0, 0x479e)
}

// P3.1: of no bytes start is all there is.
func TestSumOfNone(t *testing.T) {
	for _, none := range [][]byte{nil, {}, header()[:0]} {
		checkSum(t, none, 0, 0)
		checkSum(t, none, 1, 1)
		checkSum(t, none, 0xfffe, 0xfffe)
		checkSum(t, none, 0xffff, 0xffff)
	}
}

// P3.1: what is beyond 16 binary digits in start is added to the low ones.
func TestSumStartBeyond(t *testing.T) {
	checkSum(t, nil, 0x10000, 1)
	checkSum(t, nil, 0x12345, 0x2346)
	checkSum(t, nil, 0x20000, 2)
	checkSum(t, nil, 0xabcd0000, 0xabcd)
	checkSum(t, nil, 0x12345678, 0x68ac)
	checkSum(t, []byte{0, 3}, 0x12345, 0x2349)
	checkSum(t, []byte{0xff}, 0x00010001, 0xff02)
}

// P3.1: until none is beyond: once more, where the first carry makes another one.
func TestSumRoundTwice(t *testing.T) {
	checkSum(t, nil, 0x1ffff, 1)
	checkSum(t, nil, 0xffff0001, 1)
	checkSum(t, nil, 0xffffffff, 0xffff)
	checkSum(t, nil, 0xfffffffe, 0xfffe)
	checkSum(t, []byte{0xff, 0xff}, 0x10000, 1)
	checkSum(t, []byte{0xff, 0xff, 0, 1}, 0xffff, 1)
	checkSum(t, []byte{0xff, 0xff, 0xff, 0xff, 0, 1}, 0, 1)
	checkSum(t, []byte{0xff, 0xff, 0xff, 0xff}, 0xffff, 0xffff)
}

// P3.1: start and the words together are beyond 32 binary digits, too: no carry is lost.
func TestSumBeyond32(t *testing.T) {
	checkSum(t, []byte{0, 1}, 0xffffffff, 1)
	checkSum(t, []byte{0xff, 0xff}, 0xffffffff, 0xffff)
	checkSum(t, []byte{0x80, 0, 0x80, 0}, 0xffff8000, 0x8001)
	checkSum(t, []byte{1}, 0xffffff00, 1)
	checkSum(t, []byte{1, 2}, 0xfffffffe, 0x0101)
}

// P3.1: the last byte of an odd row is the high one of a word, whatever is in the spare room.
func TestSumOdd(t *testing.T) {
	checkSum(t, []byte{1}, 0, 0x0100)
	checkSum(t, []byte{0xff}, 0, 0xff00)
	checkSum(t, []byte{1, 2, 3}, 5, 0x0407)
	checkSum(t, []byte{0xff, 0xff, 1}, 0, 0x0100)
	checkSum(t, []byte{1, 2, 3, 77, 78, 79}[:3], 0, 0x0402)
	checkSum(t, []byte{1, 2, 3, 77, 78, 79}[:2], 0, 0x0102)
}

// P3.1: once 65535, a sum is not 0 again, and 0 only where all is.
func TestSumNeverBackToZero(t *testing.T) {
	for n := range 100 {
		checkSum(t, make([]byte, n), 0, 0)
		checkSum(t, make([]byte, n), top, top)
		if n > 1 {
			checkSum(t, bytes.Repeat([]byte{0xff}, n&^1), uint32(n*top), top)
		}
	}
}

// P3.1: rows of all lengths, as told in another way.
func TestSumRows(t *testing.T) {
	n := noise(1)
	for size := range 300 {
		b := n.row(size)
		for _, start := range []uint32{0, 1, top, 0x10000, 0x1ffff, 0x80000000, 0xffff0000, 0xffffffff, uint32(n)} {
			checkSum(t, b, start, wrapped(total(b, start)))
		}
	}
	for _, size := range []int{65535, 65536, 1 << 20, 1<<20 + 1} {
		for _, b := range [][]byte{n.row(size), bytes.Repeat([]byte{0xff}, size)} {
			checkSum(t, b, 0, wrapped(total(b, 0)))
			checkSum(t, b, 0xffffffff, wrapped(total(b, 0xffffffff)))
		}
	}
}

// P3.1: what is added is told by the words, not by the order in which they stand.
func TestSumOrder(t *testing.T) {
	n := noise(2)
	for range 100 {
		a, b, c := n.row(2), n.row(2), n.row(2)
		want := chksum.Sum(slices.Concat(a, b, c), 7)
		checkSum(t, slices.Concat(c, a, b), 7, want)
		checkSum(t, slices.Concat(b, a), uint32(chksum.Sum(c, 7)), want)
	}
}

// P3.1: the opposite bits of the sum from 0.
func TestCheck(t *testing.T) {
	signed := header()
	signed[10], signed[11] = 0xb8, 0x61
	for _, c := range []struct {
		b    []byte
		want uint16
	}{
		{[]byte{0, 1, 242, 3}, 3579},
		{nil, 65535}, {[]byte{}, 65535}, {[]byte{0}, 65535}, {make([]byte, 40), 65535},
		{[]byte{0xff, 0xff}, 0}, {[]byte{0xff, 0xff, 0xff, 0xff}, 0}, {[]byte{0xff, 0xfe, 0, 1}, 0}, {[]byte{0xff, 0xff, 0, 0, 0}, 0},
		{[]byte{0xff}, 0x00ff}, {[]byte{0, 1}, 0xfffe}, {[]byte{0xff, 0xff, 0, 1}, 0xfffe}, {[]byte{1, 2, 3}, 0xfbfd},
		{header(), 0xb861}, {signed, 0},
	} {
		before := bytes.Clone(c.b)
		if got := chksum.Check(c.b); got != c.want {
			t.Errorf("Check(%v) = %#x; want %#x", c.b, got, c.want)
		}
		if !bytes.Equal(c.b, before) {
			t.Errorf("Check has changed what was handed in: %v, was %v", c.b, before)
		}
	}
}

// P3.1: of rows of all lengths; with it behind, an even row's is 0.
func TestCheckRows(t *testing.T) {
	n := noise(3)
	for size := range 300 {
		b := n.row(size)
		sum := chksum.Check(b)
		if want := top - wrapped(total(b, 0)); sum != want {
			t.Errorf("Check of %d bytes = %#x; want %#x", size, sum, want)
		}
		if size%2 == 0 {
			if got := chksum.Check(append(b, byte(sum>>8), byte(sum))); got != 0 {
				t.Errorf("Check of %d bytes with their own behind = %#x", size, got)
			}
		}
	}
}

func checkUpdate(t *testing.T, old, from, to, want uint16) {
	t.Helper()
	if got := chksum.Update(old, from, to); got != want {
		t.Errorf("Update(%#x, %#x, %#x) = %#x; want %#x", old, from, to, got, want)
	}
}

// P3.2: the third equation, in numbers.
func TestUpdate(t *testing.T) {
	checkUpdate(t, 0xdd2f, 0x5555, 0x3285, 0) // RFC 1624's own: the second equation has 65535
	checkUpdate(t, 0xb861, 0x4011, 0x3f11, 0xb961)
	checkUpdate(t, 0xb861, 0x0001, 0x0002, 0xb860)
	checkUpdate(t, 0x1000, 1, 3, 0x0ffe)
	checkUpdate(t, 0x1000, 3, 1, 0x1002)
	checkUpdate(t, 0, 1, 0, 1)
	checkUpdate(t, 0, 0, 1, 0xfffe)
	checkUpdate(t, 1, 0, 1, 0)
	checkUpdate(t, 5, 7, 7, 5)
}

// P3.2: 65535 comes only where all three that are added are 0; else 0 is the one.
func TestUpdateEnds(t *testing.T) {
	checkUpdate(t, 0, 0, 0, 0)
	checkUpdate(t, 0xffff, 0, 0, 0)
	checkUpdate(t, 0xffff, 0xffff, 0xffff, 0)
	checkUpdate(t, 0xffff, 0xffff, 0, 0xffff)
	checkUpdate(t, 0, 0xffff, 0xffff, 0)
	checkUpdate(t, 0, 0xffff, 0, 0)
	checkUpdate(t, 0, 0, 0xffff, 0)
	checkUpdate(t, 0xffff, 0, 0xffff, 0)
	checkUpdate(t, 0xffff, 0xffff, 1, 0xfffe)
	for _, old := range edges() {
		for _, word := range edges() {
			want := old
			if old == top {
				want = 0
			}
			checkUpdate(t, old, word, word, want)
		}
	}
}

// P3.2: as told in another way; what goes round does so more than once where it must.
func TestUpdateWords(t *testing.T) {
	for _, old := range edges() {
		for _, from := range edges() {
			for _, to := range edges() {
				checkUpdate(t, old, from, to, updated(old, from, to))
			}
		}
	}
	n := noise(4)
	for range 20000 {
		old, from, to := n.word(), n.word(), n.word()
		checkUpdate(t, old, from, to, updated(old, from, to))
	}
}

func checkChange(t *testing.T, old uint16, from, to []byte, want uint16) {
	t.Helper()
	fromWas, toWas := bytes.Clone(from[:cap(from)]), bytes.Clone(to[:cap(to)])
	if got := chksum.Change(old, from, to); got != want {
		t.Errorf("Change(%#x, %v, %v) = %#x; want %#x", old, from, to, got, want)
	}
	if !bytes.Equal(from[:cap(from)], fromWas) || !bytes.Equal(to[:cap(to)], toWas) {
		t.Errorf("Change(%#x, %v, %v) has changed what was handed in", old, fromWas, toWas)
	}
}

// P3.2: word by word, each one.
func TestChange(t *testing.T) {
	checkChange(t, 0xdd2f, []byte{0x55, 0x55}, []byte{0x32, 0x85}, 0)
	checkChange(t, 0x1000, []byte{0, 1, 0, 2}, []byte{0, 3, 0, 5}, 0x0ffb)
	checkChange(t, 0x1000, []byte{0, 0, 0, 0, 0, 1}, []byte{0, 0, 0, 0, 0, 3}, 0x0ffe)
	checkChange(t, 0xb861, []byte{0xc0, 0xa8, 0, 0xc7}, []byte{10, 0, 0, 1}, 0x6fd0)
	checkChange(t, 0x1000, []byte{1, 2, 3, 4}, []byte{3, 4, 1, 2}, 0x1000)
	checkChange(t, 0x1000, []byte{1, 2}, []byte{2, 1}, 0x0f01)
}

// P3.2: of no words nothing changes; of the same words only 65535 does, as Update has it.
func TestChangeNothing(t *testing.T) {
	for _, old := range edges() {
		checkChange(t, old, nil, nil, old)
		checkChange(t, old, []byte{}, nil, old)
		checkChange(t, old, nil, []byte{}, old)
		same := header()
		want := old
		if old == top {
			want = 0
		}
		checkChange(t, old, same, same, want)
		checkChange(t, old, same, header(), want)
	}
	checkChange(t, top, []byte{0xff, 0xff, 0xff, 0xff}, []byte{0, 0, 0, 0}, top)
	checkChange(t, top, []byte{0xff, 0xff, 0, 0}, []byte{0, 0, 0xff, 0xff}, 0)
}

// P3.2: the old one stays, of rows that are not equally long, whatever is in front, and whatever is in the spare room.
func TestChangeNotEquallyLong(t *testing.T) {
	from, to := header(), bytes.Repeat([]byte{0x5a}, 20)
	for _, old := range edges() {
		for i := range len(from) + 1 {
			for j := range len(to) + 1 {
				if i != j {
					checkChange(t, old, from[:i], to[:j], old)
				}
			}
		}
		checkChange(t, old, nil, []byte{1, 2}, old)
		checkChange(t, old, []byte{1, 2}, nil, old)
	}
}

// P3.2: the old one stays, of rows of an odd length.
func TestChangeOdd(t *testing.T) {
	from, to := header(), bytes.Repeat([]byte{0x5a}, 20)
	for _, old := range edges() {
		for size := 1; size < len(from); size += 2 {
			checkChange(t, old, from[:size], to[:size], old)
		}
		checkChange(t, old, []byte{1}, []byte{2}, old)
		checkChange(t, old, []byte{1, 2, 3}, []byte{1, 2, 4}, old)
	}
}

// P3.2: one Update a word, from the front.
func TestChangeWords(t *testing.T) {
	n := noise(5)
	for size := 0; size < 80; size += 2 {
		for _, old := range append(edges(), n.word()) {
			from, to := n.row(size), n.row(size)
			want := old
			for i := 0; i < size; i += 2 {
				want = updated(want, uint16(from[i])<<8|uint16(from[i+1]), uint16(to[i])<<8|uint16(to[i+1]))
			}
			checkChange(t, old, from, to, want)
		}
	}
}

// put is b with part at a place.
func put(b []byte, at int, part []byte) []byte {
	out := bytes.Clone(b)
	copy(out[at:], part)
	return out
}

// checkBehind: what Update, or Change, makes of b's checksum is the one of b with part at an even place.
func checkBehind(t *testing.T, b []byte, at int, part []byte) {
	t.Helper()
	behind := put(b, at, part)
	old, want := chksum.Check(b), chksum.Check(behind)
	from := b[at : at+len(part)]
	if got := chksum.Change(old, from, part); !one(got, want) {
		t.Errorf("Change of %v to %v at %d: %#x; want %#x", b, part, at, got, want)
	}
	if len(part) == 2 {
		if got := chksum.Update(old, uint16(from[0])<<8|uint16(from[1]), uint16(part[0])<<8|uint16(part[1])); !one(got, want) {
			t.Errorf("Update of %v to %v at %d: %#x; want %#x", b, part, at, got, want)
		}
	}
}

// P3.3: the checksum behind it is the one of what is there then, of rows of even and odd lengths.
func TestBehind(t *testing.T) {
	n := noise(6)
	for size := 2; size < 60; size++ {
		b := n.row(size)
		for at := 0; at+2 <= size; at += 2 {
			checkBehind(t, b, at, n.row(2))
			checkBehind(t, b, at, n.row((size-at)&^1))
		}
	}
}

// P3.3: at the ends, too, where 0 and 65535 are one.
func TestBehindEnds(t *testing.T) {
	ends := [][]byte{{0, 0}, {0, 1}, {0x7f, 0xff}, {0x80, 0}, {0xff, 0xfe}, {0xff, 0xff}}
	for _, a := range ends {
		for _, b := range ends {
			for _, c := range ends {
				row := slices.Concat(a, b)
				checkBehind(t, row, 0, c)
				checkBehind(t, row, 2, c)
				checkBehind(t, a, 0, c)
				for _, d := range ends {
					checkBehind(t, row, 0, slices.Concat(c, d))
				}
			}
		}
	}
}

// P3.3: to another one and back: the checksum is as it was.
func TestBehindBack(t *testing.T) {
	n := noise(7)
	for range 500 {
		a, b := n.row(12), n.row(12)
		old := chksum.Check(slices.Concat(a, n.row(5)))
		if got := chksum.Change(chksum.Change(old, a, b), b, a); !one(got, old) {
			t.Errorf("to %v and back: %#x, was %#x", b, got, old)
		}
	}
}
