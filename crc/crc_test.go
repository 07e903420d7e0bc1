package crc_test

import (
	"bytes"
	"hash/crc32"
	"math/bits"
	"slices"
	"testing"

	"bazaar/crc"
)

const top = 0xffffffff

// known is the polynomials that Known answers.
func known() []uint32 {
	return []uint32{0xedb88320, 0x82f63b78, 0xeb31d82e, 0xd5828281}
}

// polys is those, and some at the edges.
func polys() []uint32 {
	return append(known(), 0, top, 1, 2, 0x7fffffff, 0x80000000, 0x80000001, 0xfffffffe, 0x04c11db7)
}

// seeds is some, those at the edges among them.
func seeds() []uint32 {
	return []uint32{0, top, 1, 2, 0xff, 0x100, 0x7fffffff, 0x80000000, 0xfffffffe, 0x12345678, 0xcbf43926}
}

// step is one bit more, told the other way round: the highest power stands in the highest bit.
func step(poly, reg, bit uint32) uint32 {
	out := reg>>31 ^ bit
	reg <<= 1
	if out == 1 {
		reg ^= bits.Reverse32(poly)
	}
	return reg
}

// byBits is Of, with poly's own table, bit by bit and without a table.
func byBits(poly, seed uint32, b []byte) uint32 {
	reg := bits.Reverse32(^seed)
	for _, n := range b {
		for i := range 8 {
			reg = step(poly, reg, uint32(n)>>i&1)
		}
	}
	return ^bits.Reverse32(reg)
}

// noise answers rows of bytes, always the same ones.
type noise uint32

func (n *noise) row(size int) []byte {
	b := make([]byte, size)
	for i := range b {
		*n = *n*1664525 + 1013904223
		b[i] = byte(*n >> 24)
	}
	return b
}

// rows is rows of no bytes, of one, of a few and of some hundred.
func rows() [][]byte {
	n := noise(1)
	out := [][]byte{nil, {}, {0}, {1}, {0x80}, {0xff}, []byte("a"), []byte("123456789")}
	for _, size := range []int{1, 2, 3, 4, 5, 7, 8, 9, 14, 38, 100, 255, 256, 257, 700} {
		out = append(out, n.row(size), make([]byte, size), bytes.Repeat([]byte{0xff}, size))
	}
	return out
}

// front is as much of a row as is worth telling.
func front(b []byte) []byte {
	return b[:min(len(b), 20)]
}

func checkOf(t *testing.T, table crc.Table, seed uint32, b []byte, want uint32) {
	t.Helper()
	if got := crc.Of(table, seed, b); got != want {
		t.Errorf("Of, with the table whose entry of 128 is %#x, seed %#x and %d bytes %v ..: %#x; want %#x", table[128], seed, len(b), front(b), got, want)
	}
}

// P12.1: tables' entries, in numbers; that of 0 is 0, that of 128 the polynomial.
func TestMake(t *testing.T) {
	at := []int{0, 1, 2, 3, 16, 127, 128, 254, 255}
	for _, c := range []struct {
		poly uint32
		want []uint32
	}{
		{0xedb88320, []uint32{0, 0x77073096, 0xee0e612c, 0x990951ba, 0x1db71064, 0xc0ba6cad, 0xedb88320, 0x5a05df1b, 0x2d02ef8d}},
		{0x82f63b78, []uint32{0, 0xf26b8303, 0xe13b70f7, 0x1350f3f4, 0x105ec76f, 0x2f8b6829, 0x82f63b78, 0x5f16d052, 0xad7d5351}},
		{0xeb31d82e, []uint32{0, 0x9695c4ca, 0xfb4839c9, 0x6dddfd03, 0x83cf0f3c, 0x2b63f45c, 0xeb31d82e, 0x56c7e8b8, 0xc0522c72}},
		{0xd5828281, []uint32{0, 0x999a0002, 0x98310507, 0x01ab0505, 0x90933331, 0xa2f48280, 0xd5828281, 0xeeec0003, 0x77760001}},
		{top, []uint32{0, 0x02000000, 0x04000000, 0x06000000, 0x20000000, 0xfe000000, top, 0x03ffffff, 0x01ffffff}},
		{0x80000000, []uint32{0, 0x01000000, 0x02000000, 0x03000000, 0x10000000, 0x7f000000, 0x80000000, 0xfe000000, 0xff000000}},
		{1, []uint32{0, 1, 1, 0, 1, 1, 1, 1, 0}},
	} {
		table := crc.Make(c.poly)
		for i, n := range at {
			if table[n] != c.want[i] {
				t.Errorf("Make(%#x)[%d] = %#x; want %#x", c.poly, n, table[n], c.want[i])
			}
		}
	}
}

// P12.1: of polynomial 0 each entry is 0.
func TestMakeOfNought(t *testing.T) {
	if got := crc.Make(0); got != (crc.Table{}) {
		t.Errorf("Make(0) = %v", got)
	}
}

// P12.1: each entry of each table, as told bit by bit.
func TestMakeEachByte(t *testing.T) {
	for _, poly := range polys() {
		table := crc.Make(poly)
		for n := range 256 {
			reg := bits.Reverse32(uint32(n))
			for range 8 {
				reg = step(poly, reg, 0)
			}
			if want := bits.Reverse32(reg); table[n] != want {
				t.Errorf("Make(%#x)[%d] = %#x; want %#x", poly, n, table[n], want)
			}
		}
		if table != crc.Make(poly) {
			t.Errorf("Make(%#x) answers two tables", poly)
		}
	}
}

// P12.1: a table is a value: whoever writes into one changes neither another one nor a later one.
func TestMakeValue(t *testing.T) {
	for _, poly := range polys() {
		one := crc.Make(poly)
		two := one
		clear(one[:])
		one[128]--
		if three := crc.Make(poly); two != three || three[128] != poly {
			t.Errorf("Make(%#x) shares memory", poly)
		}
	}
}

// P12.1, P12.3: the example, and the same of the other polynomials.
func TestExample(t *testing.T) {
	text := []byte("123456789")
	for _, c := range []struct{ poly, seed, want uint32 }{
		{0xedb88320, 0, 0xcbf43926}, {0xedb88320, top, 0xd202d277},
		{0x82f63b78, 0, 0xe3069283}, {0x82f63b78, top, 0xa71c05df},
		{0xeb31d82e, 0, 0x2d3dd0ae}, {0xeb31d82e, top, 0x5aa307ca},
		{0xd5828281, 0, 0xa9cc8179}, {0xd5828281, top, 0xe8feab6e},
		{0, 0, top}, {0, top, top},
		{top, 0, 0x2aa0a2a4}, {top, top, 0x2ea0a2a4},
		{1, 0, 0xfffffffe}, {1, top, 0xfffffffe},
		{0x80000000, 0, 0x3d0c0404}, {0x80000000, top, 0xc2f3fbfb},
	} {
		checkOf(t, crc.Make(c.poly), c.seed, text, c.want)
	}
}

// P12.1: of no bytes the check is the seed itself, whatever the table.
func TestOfNone(t *testing.T) {
	tables := []crc.Table{{}, {0: top}, {255: 7}}
	for _, poly := range polys() {
		tables = append(tables, crc.Make(poly))
	}
	for _, table := range tables {
		for _, seed := range seeds() {
			for _, none := range [][]byte{nil, {}, []byte("123456789")[:0]} {
				checkOf(t, table, seed, none, seed)
			}
		}
	}
}

// P12.1: rows of noughts tell how many there are, but from the opposite of 0 on.
func TestOfNoughts(t *testing.T) {
	table := crc.Make(0xedb88320)
	checkOf(t, table, 0, make([]byte, 1), 0xd202ef8d)
	checkOf(t, table, 0, make([]byte, 4), 0x2144df1c)
	checkOf(t, crc.Make(0xd5828281), 0, make([]byte, 4), 0xb53d5af6)
	checkOf(t, crc.Make(0), 0, make([]byte, 1), 0xff000000)
	checkOf(t, crc.Make(0), 0, make([]byte, 4), top)
	for _, poly := range known() {
		table, last := crc.Make(poly), uint32(0)
		for size := 1; size < 300; size++ {
			got := crc.Of(table, 0, make([]byte, size))
			if got == last {
				t.Errorf("Of %d noughts and of one less, polynomial %#x: %#x", size, poly, got)
			}
			last = got
			checkOf(t, table, top, make([]byte, size), top)
		}
	}
}

// P12.1: each row, with each seed, as told bit by bit.
func TestOfByBits(t *testing.T) {
	for _, poly := range polys() {
		table := crc.Make(poly)
		for _, b := range rows() {
			for _, seed := range seeds() {
				checkOf(t, table, seed, b, byBits(poly, seed, b))
			}
		}
		for n := range 256 {
			for _, seed := range seeds() {
				checkOf(t, table, seed, []byte{byte(n)}, byBits(poly, seed, []byte{byte(n)}))
				checkOf(t, table, seed, []byte{byte(n), 0x5a}, byBits(poly, seed, []byte{byte(n), 0x5a}))
			}
		}
	}
}

// P12.1: a row as long as a frame may be, and a longer one.
func TestOfLong(t *testing.T) {
	n := noise(2)
	for _, size := range []int{65535, 1 << 20} {
		b := n.row(size)
		for _, poly := range known() {
			checkOf(t, crc.Make(poly), 7, b, byBits(poly, 7, b))
		}
	}
}

// P12.1: the table is asked as it is, also one that no polynomial makes.
func TestOfAnyTable(t *testing.T) {
	var same, tops crc.Table
	for n := range same {
		same[n], tops[n] = uint32(n), top
	}
	checkOf(t, same, 0, []byte{0x0f}, 0xff0000f0)
	checkOf(t, same, 0, []byte{0x0f, 1}, 0xffff000e)
	checkOf(t, same, 0x12345678, []byte{0x87}, 0xff123456)
	checkOf(t, crc.Table{}, 0x12345678, []byte{1, 2}, 0xffff1234)
	checkOf(t, crc.Table{}, 0, []byte{1, 2, 3, 4, 5}, top)
	checkOf(t, tops, 0, []byte{9}, 0x00ffffff)
	checkOf(t, tops, 0, []byte{9, 9}, 0x00ff0000)
	for at := range 256 {
		var one crc.Table
		one[at] = 0x01020304
		for n := range 256 {
			want := uint32(0xff000000)
			if n^at == 255 {
				want = ^uint32(0x00ffffff ^ 0x01020304)
			}
			checkOf(t, one, 0, []byte{byte(n)}, want)
		}
	}
}

// P12.1: what is handed in stays as it was, its spare room too, and is not told by that room.
func TestOfLeaves(t *testing.T) {
	for _, poly := range known() {
		table := crc.Make(poly)
		for _, b := range rows() {
			want := byBits(poly, 5, b)
			for _, more := range []byte{0, 1, 255} {
				room := slices.Concat(b, bytes.Repeat([]byte{more}, 40))
				was := slices.Clone(room)
				checkOf(t, table, 5, room[:len(b)], want)
				if !bytes.Equal(room, was) {
					t.Errorf("Of has changed %d bytes %v .., or their spare room", len(b), front(b))
				}
			}
		}
		if table != crc.Make(poly) {
			t.Errorf("Of has changed the table of %#x", poly)
		}
	}
}

// P12.2: the four, in their order.
func TestKnown(t *testing.T) {
	if got := crc.Known(); !slices.Equal(got, known()) {
		t.Errorf("Known() = %#x; want %#x", got, known())
	}
}

// P12.2: new memory each time, its spare room too.
func TestKnownNew(t *testing.T) {
	one, two := crc.Known(), crc.Known()
	one = one[:cap(one)]
	for i := range one {
		one[i]++
	}
	_ = append(crc.Known(), 7)
	if three := crc.Known(); !slices.Equal(two, known()) || !slices.Equal(three, known()) {
		t.Errorf("Known() shares memory: %#x, %#x", two, three)
	}
}

// P12.3: of 0xedb88320, with seed 0, CRC-32 as the language's library has it; with other seeds and polynomials its own, too.
func TestEverybodys(t *testing.T) {
	table := crc.Make(0xedb88320)
	checkOf(t, table, 0, []byte("a"), 0xe8b7be43)
	checkOf(t, table, 0, []byte("The quick brown fox jumps over the lazy dog"), 0x414fa339)
	for _, b := range rows() {
		checkOf(t, table, 0, b, crc32.ChecksumIEEE(b))
		for _, poly := range polys() {
			for _, seed := range seeds() {
				checkOf(t, crc.Make(poly), seed, b, crc32.Update(seed, crc32.MakeTable(poly), b))
			}
		}
	}
}

// P12.3: of two rows, one behind the other, wherever the first one ends; either may be empty.
func TestOfTwo(t *testing.T) {
	n := noise(3)
	whole := n.row(60)
	for _, poly := range polys() {
		table := crc.Make(poly)
		for _, seed := range seeds() {
			want := byBits(poly, seed, whole)
			for at := range len(whole) + 1 {
				checkOf(t, table, crc.Of(table, seed, whole[:at]), whole[at:], want)
			}
		}
	}
	for _, poly := range known() {
		table := crc.Make(poly)
		for _, a := range rows() {
			for _, b := range rows() {
				checkOf(t, table, crc.Of(table, 9, a), b, crc.Of(table, 9, slices.Concat(a, b)))
			}
		}
	}
}

// P12.3: byte by byte, too.
func TestOfMany(t *testing.T) {
	for _, poly := range polys() {
		table := crc.Make(poly)
		for _, b := range rows() {
			sum := uint32(0)
			for i := range b {
				sum = crc.Of(table, sum, b[i:i+1])
			}
			checkOf(t, table, 0, b, sum)
		}
	}
}

// P12.1: two rows of one length that differ in one bit alone have two checks, whichever bit it is.
func TestEachBit(t *testing.T) {
	n := noise(4)
	for _, poly := range append(known(), top) {
		table := crc.Make(poly)
		for _, b := range [][]byte{{0}, make([]byte, 60), n.row(60), []byte("123456789"), bytes.Repeat([]byte{0xff}, 38)} {
			for _, seed := range []uint32{0, top, 5} {
				checkBits(t, table, poly, seed, b)
			}
		}
	}
}

// checkBits holds the check of b against those of b with each of its bits turned.
func checkBits(t *testing.T, table crc.Table, poly, seed uint32, b []byte) {
	t.Helper()
	was := crc.Of(table, seed, b)
	for i := range b {
		for bit := range 8 {
			turned := slices.Clone(b)
			turned[i] ^= 1 << bit
			got := crc.Of(table, seed, turned)
			if got == was || got != byBits(poly, seed, turned) {
				t.Errorf("polynomial %#x, seed %#x, %d bytes %v .. with bit %d of byte %d turned: %#x; was %#x", poly, seed, len(b), front(b), bit, i, got, was)
			}
		}
	}
}

// P12.1: two seeds over one row have two checks.
func TestTwoSeeds(t *testing.T) {
	for _, poly := range append(known(), top) {
		table := crc.Make(poly)
		for _, b := range rows() {
			from := map[uint32]uint32{}
			for _, seed := range seeds() {
				got := crc.Of(table, seed, b)
				if other, there := from[got]; there {
					t.Errorf("polynomial %#x, %d bytes %v ..: %#x of both seeds, %#x and %#x", poly, len(b), front(b), got, other, seed)
				}
				from[got] = seed
			}
		}
	}
}

// asksNoughtAlone tells whether of b, with seed 0, no entry of a table is asked but that of 0, which is 0 in each one.
func asksNoughtAlone(b []byte) bool {
	return len(b) <= 4 && bytes.Count(b, []byte{255}) == len(b)
}

// P12.1, P12.2: two of the polynomials over one row have two checks, unless no entry is asked in which they differ.
func TestTwoPolynomials(t *testing.T) {
	for _, b := range rows() {
		from := map[uint32]uint32{}
		for _, poly := range crc.Known() {
			got := crc.Of(crc.Make(poly), 0, b)
			other, there := from[got]
			if there && !asksNoughtAlone(b) {
				t.Errorf("%d bytes %v ..: %#x of both polynomials, %#x and %#x", len(b), front(b), got, other, poly)
			}
			from[got] = poly
		}
		if asksNoughtAlone(b) && len(from) != 1 {
			t.Errorf("%d bytes %v ..: checks %v; want one of all polynomials", len(b), b, from)
		}
	}
}
