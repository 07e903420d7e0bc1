package ipsix_test

import (
	"bytes"
	"math"
	"slices"
	"testing"

	"bazaar/addr"
	"bazaar/api"
	"bazaar/ipsix"
)

const top = 65535

// put is b with part at a place.
func put(b []byte, at int, part ...byte) []byte {
	out := bytes.Clone(b)
	copy(out[at:], part)
	return out
}

// row is n bytes, none of them 0, of which no two neighbours are the same.
func row(n int) []byte {
	b := make([]byte, n)
	for i := range b {
		b[i] = byte(i%250 + 3)
	}
	return b
}

// noise answers rows of bytes, always the same ones.
type noise uint32

func (n *noise) row(size int) []byte {
	b := make([]byte, size)
	for i := range b {
		*n = *n*1664525 + 1013904223
		b[i] = byte(*n >> 24)
	}
	return b
}

var (
	from  = api.Addr{V6: true, B: [16]byte{0x20, 1, 0x0d, 0xb8, 5, 6, 7, 8, 9, 10, 11, 12, 13, 14, 15, 16}}
	where = api.Addr{V6: true, B: [16]byte{0xfd, 200, 199, 198, 197, 196, 195, 194, 193, 192, 191, 190, 189, 188, 187, 255}}
	other = api.Addr{V6: true, B: [16]byte{0xfe, 0x80, 13: 7, 15: 200}}
	four  = addr.V4(10, 1, 2, 3)
)

// packet is a good one, of which each byte of the header says something; n bytes behind that.
func packet(next byte, n int) []byte {
	ahead := []byte{0x6f, 0xe1, 0xd2, 0xc3, byte(n >> 8), byte(n), next, 63}
	return slices.Concat(ahead, from.B[:], where.B[:], row(n))
}

// is the header of a packet.
func is(proto byte, n int) ipsix.Head {
	return ipsix.Head{Length: 40 + n, Proto: proto, Src: from, Dst: where}
}

// held calls do, and holds all of b's memory against what it was.
func held(t *testing.T, what string, b []byte, do func()) {
	t.Helper()
	was := bytes.Clone(b[:cap(b)])
	do()
	if !bytes.Equal(b[:cap(b)], was) {
		t.Errorf("%s has changed what was handed in, or its spare room:\n got %v\n was %v", what, b[:cap(b)], was)
	}
}

func front(b []byte) []byte {
	return b[:min(len(b), 44)]
}

func checkRead(t *testing.T, b []byte, want ipsix.Head) {
	t.Helper()
	held(t, "Read", b, func() {
		if got, reason := ipsix.Read(b); got != want || reason != 0 {
			t.Errorf("Read of %d bytes %v .. = %v, %d; want %v", len(b), front(b), got, reason, want)
		}
	})
}

// checkReason: Read tells it, and no header; Dest tells nothing.
func checkReason(t *testing.T, b []byte, want int) {
	t.Helper()
	held(t, "Read", b, func() {
		if got, reason := ipsix.Read(b); got != (ipsix.Head{}) || reason != want {
			t.Errorf("Read of %d bytes %v .. = %v, %d; want reason %d", len(b), front(b), got, reason, want)
		}
	})
	checkNoDest(t, b, other)
}

func checkNoDest(t *testing.T, b []byte, to api.Addr) {
	t.Helper()
	held(t, "Dest", b, func() {
		if out := ipsix.Dest(b, to); len(out) != 0 {
			t.Errorf("Dest of %d bytes %v .., to %v: %v; want none", len(b), front(b), to, out)
		}
	})
}

// checkDest: b with sixteen other bytes, and nothing else.
func checkDest(t *testing.T, b []byte, to api.Addr) []byte {
	t.Helper()
	want := put(b, 24, to.B[:]...)
	var out []byte
	held(t, "Dest", b, func() { out = ipsix.Dest(b, to) })
	if !bytes.Equal(out, want) {
		t.Fatalf("Dest of %d bytes, to %v:\n got %d bytes %v\nwant %d bytes %v", len(b), to.B, len(out), front(out), len(want), front(want))
	}
	return out
}

// lengths is payloads of none, of few, of those where a byte of the length turns, and of most.
func lengths() []int {
	return []int{0, 1, 2, 5, 8, 20, 39, 40, 41, 215, 216, 255, 256, 257, 1440, 32767, 32768, 65494, 65495, top - 1, top}
}

// P6.1: packets of TCP and of UDP, just as long as the header says, and with more behind.
func TestRead(t *testing.T) {
	for _, proto := range []byte{api.TCP, api.UDP} {
		for _, n := range lengths() {
			b := packet(proto, n)
			checkRead(t, b, is(proto, n))
			checkRead(t, slices.Concat(b, []byte{0}), is(proto, n))
			checkRead(t, slices.Concat(b, row(26)), is(proto, n))
			checkRead(t, slices.Concat(b, row(1<<17)), is(proto, n))
		}
	}
}

// P6.1: each field comes from its own bytes, and from them alone.
func TestReadFields(t *testing.T) {
	b := packet(api.UDP, 9)
	for at := range 8 + 32 {
		turned, want := put(b, at, b[at]^0x10), is(api.UDP, 9)
		switch {
		case at == 0 || at == 4 || at == 5 || at == 6:
			continue
		case at >= 24:
			want.Dst.B[at-24] ^= 0x10
		case at >= 8:
			want.Src.B[at-8] ^= 0x10
		}
		checkRead(t, turned, want)
	}
	checkRead(t, put(b, 0, 0x60, 0, 0, 0), is(api.UDP, 9))
	for _, a := range []api.Addr{{V6: true}, {V6: true, B: [16]byte{10: 255, 11: 255, 12: 10}}} {
		zero := put(put(b, 8, a.B[:]...), 24, a.B[:]...)
		checkRead(t, zero, ipsix.Head{Length: 49, Proto: api.UDP, Src: a, Dst: a})
	}
}

// P6.1: fewer than 40 bytes are Short, whatever they are, and whatever is in the spare room.
func TestReadFew(t *testing.T) {
	for _, b := range [][]byte{packet(api.TCP, 0), packet(api.UDP, 9), put(packet(44, 9), 0, 0x45)} {
		for n := range 40 {
			checkReason(t, b[:n], api.Short)
			checkReason(t, bytes.Clone(b[:n:n]), api.Short)
		}
	}
	for n := range 40 {
		checkReason(t, make([]byte, n), api.Short)
		checkReason(t, bytes.Repeat([]byte{255}, n), api.Short)
		checkReason(t, bytes.Repeat([]byte{0x66}, n), api.Short)
	}
	checkReason(t, nil, api.Short)
}

// P6.1: of the first byte the high half alone is asked: each version but 6 is BadHead.
func TestReadFirstByte(t *testing.T) {
	for v := range 256 {
		b := put(packet(api.TCP, 12), 0, byte(v))
		if v>>4 == 6 {
			checkRead(t, b, is(api.TCP, 12))
		} else {
			checkReason(t, b, api.BadHead)
			checkReason(t, b[:40], api.BadHead)
		}
	}
}

// P6.1: Short of a packet that ends ahead of its payload's end, by one byte, too; the spare room is none of it.
func TestReadShort(t *testing.T) {
	for _, proto := range []byte{api.TCP, api.UDP} {
		for _, n := range lengths() {
			b := packet(proto, n)
			if n > 0 {
				checkReason(t, b[:39+n], api.Short)
				checkReason(t, bytes.Clone(b[:39+n:39+n]), api.Short)
				checkReason(t, b[:40], api.Short)
			}
			if n < top {
				checkReason(t, put(b, 4, byte((n+1)>>8), byte(n+1)), api.Short)
			}
			checkReason(t, put(b, 4, 255, 255)[:40+min(n, top-1)], api.Short)
		}
	}
	b := packet(api.TCP, 300)
	for n := 40; n < 340; n++ {
		checkReason(t, b[:n], api.Short)
	}
}

// P6.1: the length is the payload's, not the whole packet's, and its two bytes stand the high one first.
func TestReadLength(t *testing.T) {
	for _, c := range []struct {
		high, low byte
		want      int
	}{{0, 0, 40}, {0, 1, 41}, {0, 40, 80}, {0, 255, 295}, {1, 0, 296}, {1, 2, 298}, {2, 1, 553}, {128, 0, 32808}, {255, 255, 65575}} {
		b := put(packet(api.UDP, top), 4, c.high, c.low)
		want := is(api.UDP, c.want-40)
		checkRead(t, b, want)
		checkRead(t, b[:c.want], want)
		checkReason(t, b[:c.want-1], api.Short)
	}
}

// P6.1: of all the next headers two alone; Fragment of one.
func TestReadNext(t *testing.T) {
	for v := range 256 {
		for _, n := range []int{0, 16} {
			b := packet(byte(v), n)
			switch v {
			case api.TCP, api.UDP:
				checkRead(t, b, is(byte(v), n))
			case 44:
				checkReason(t, b, api.Fragment)
			default:
				checkReason(t, b, api.NotL4)
			}
		}
	}
}

// P6.1: no header behind the first one is looked into: neither one of TCP behind options, nor a fragment.
func TestReadOneHeader(t *testing.T) {
	for _, next := range []byte{0, 43, 51, 60} {
		for _, then := range []byte{api.TCP, api.UDP, 44} {
			b := put(packet(next, 40), 40, then, 0, 1, 4, 0, 0, 0, 0)
			checkReason(t, b, api.NotL4)
		}
	}
	checkReason(t, put(packet(44, 40), 40, api.TCP, 0, 0, 0), api.Fragment)
	checkRead(t, put(packet(api.TCP, 40), 40, 44, 44, 44, 44), is(api.TCP, 40))
}

// P6.1: of the reasons that hold the first one, in whatever company.
func TestReadFirst(t *testing.T) {
	for set := range 1 << 3 {
		few, head, short := set&1 != 0, set&2 != 0, set&4 != 0
		for _, next := range []byte{api.TCP, api.UDP, 44, 0, 58} {
			b := packet(next, 12)
			want := map[byte]int{44: api.Fragment, 0: api.NotL4, 58: api.NotL4}[next]
			if short {
				b, want = b[:51], api.Short
			}
			if head {
				b, want = put(b, 0, 0x45), api.BadHead
			}
			if few {
				b, want = b[:39], api.Short
			}
			if want == 0 {
				checkRead(t, b, is(next, 12))
			} else {
				checkReason(t, b, want)
			}
		}
	}
}

// P6.1: whatever the bytes, there is one answer, and it is the one of the rule told in another way.
func TestReadOfNoise(t *testing.T) {
	n := noise(6)
	for i := range 20000 {
		b := n.row(i % 130)
		if len(b) > 6 && i%5 > 0 {
			b[0], b[4] = 0x60|b[0]&15, b[4]&1
			b[6] = []byte{api.TCP, api.UDP, 44, b[6]}[i%4]
		}
		short, version, next := len(b) < 40, byte(0), byte(0)
		length := 40
		if !short {
			version, next, length = b[0]/16, b[6], 40+int(b[4])*256+int(b[5])
		}
		switch {
		case short:
			checkReason(t, b, api.Short)
		case version != 6:
			checkReason(t, b, api.BadHead)
		case length > len(b):
			checkReason(t, b, api.Short)
		case next == 44:
			checkReason(t, b, api.Fragment)
		case next != 6 && next != 17:
			checkReason(t, b, api.NotL4)
		default:
			src := api.Addr{V6: true, B: [16]byte(b[8:24])}
			dst := api.Addr{V6: true, B: [16]byte(b[24:40])}
			checkRead(t, b, ipsix.Head{Length: length, Proto: next, Src: src, Dst: dst})
		}
	}
}

// places is where packets may go.
func places() []api.Addr {
	return []api.Addr{
		{V6: true}, other, from, where,
		{V6: true, B: [16]byte{15: 1}},
		{V6: true, B: four.B},
		{V6: true, B: [16]byte(bytes.Repeat([]byte{255}, 16))},
	}
}

// P6.2: the destination, and nothing else, whatever the packet has, bytes behind its payload too.
func TestDest(t *testing.T) {
	for _, proto := range []byte{api.TCP, api.UDP} {
		for _, n := range lengths() {
			for _, more := range []int{0, 1, 26} {
				b := slices.Concat(packet(proto, n), row(more))
				for _, to := range places() {
					want := is(proto, n)
					want.Dst = to
					checkRead(t, checkDest(t, b, to), want)
				}
			}
		}
	}
}

// P6.2: to where it goes: nothing is another; and there and back.
func TestDestSame(t *testing.T) {
	b := packet(api.UDP, 8)
	if out := checkDest(t, b, where); !bytes.Equal(out, b) {
		t.Errorf("got %v, want %v", out, b)
	}
	if back := checkDest(t, checkDest(t, b, other), where); !bytes.Equal(back, b) {
		t.Errorf("there and back: got %v, want %v", back, b)
	}
}

// P6.2: none to an address of IPv4, whatever its bytes, and whatever the packet is.
func TestDestNotSix(t *testing.T) {
	for _, b := range [][]byte{packet(api.TCP, 0), packet(api.UDP, 80), packet(44, 8), packet(58, 8), packet(api.TCP, 8)[:47], nil} {
		for _, to := range []api.Addr{{}, four, {B: where.B}} {
			checkNoDest(t, b, to)
		}
	}
}

// P6.3: what Dest answers shares no memory with what was handed in, nor with another answer.
func TestDestNew(t *testing.T) {
	for _, b := range [][]byte{packet(api.TCP, 8), packet(api.UDP, 0), packet(api.UDP, 24)[:64:64], slices.Concat(packet(api.TCP, 8), row(9))[:48]} {
		one, two := ipsix.Dest(b, other), ipsix.Dest(b, other)
		want := bytes.Clone(two)
		held(t, "a change of what is answered", b, func() {
			for i := range one {
				one[i]++
			}
			clear(one[len(one):cap(one)])
		})
		clear(b[:cap(b)])
		if !bytes.Equal(two, want) || len(two) == 0 {
			t.Errorf("what is answered shares memory: %v, was %v", two, want)
		}
	}
}

// P6.3: nothing is kept: an answer hangs on the bytes alone, whatever was asked ahead of it.
func TestNotKept(t *testing.T) {
	b := packet(api.TCP, 9)
	h, _ := ipsix.Read(b)
	copy(b, put(packet(api.UDP, 7), 8, other.B[:]...))
	want := is(api.UDP, 7)
	want.Src = other
	checkRead(t, b, want)
	if h != is(api.TCP, 9) {
		t.Errorf("the header that was answered is another one now: %v", h)
	}
	checkDest(t, b, other)
	b[0] = 0x55
	checkReason(t, b, api.BadHead)
	copy(b, packet(api.TCP, 9))
	checkRead(t, b, is(api.TCP, 9))
}

func checkMake(t *testing.T, src, dst api.Addr, proto byte, length int) []byte {
	t.Helper()
	want := slices.Concat([]byte{0x60, 0, 0, 0, byte(length / 256), byte(length % 256), proto, 64}, src.B[:], dst.B[:])
	got, ok := ipsix.Make(src, dst, proto, length)
	if !bytes.Equal(got, want) || !ok {
		t.Errorf("Make(%v, %v, %d, %d) = %v, %v; want %v", src.B, dst.B, proto, length, got, ok, want)
	}
	return got
}

// P6.2: a header of 40 bytes, of each protocol, each length at an edge, and all addresses.
func TestMake(t *testing.T) {
	for proto := range 256 {
		checkMake(t, from, where, byte(proto), 8)
	}
	for _, length := range lengths() {
		for _, src := range places() {
			for _, dst := range places() {
				checkMake(t, src, dst, api.TCP, length)
				checkMake(t, src, dst, 41, length)
			}
		}
	}
	want := append([]byte{96, 0, 0, 0, 1, 2, 4, 64}, append(append(make([]byte, 15), 1), append(make([]byte, 15), 2)...)...)
	one, two := api.Addr{V6: true, B: [16]byte{15: 1}}, api.Addr{V6: true, B: [16]byte{15: 2}}
	if got, ok := ipsix.Make(one, two, 4, 0x102); !bytes.Equal(got, want) || !ok {
		t.Errorf("got %v, %v; want %v", got, ok, want)
	}
}

// P6.1, P6.2: what is made is read, where its protocol may be.
func TestReadOfMake(t *testing.T) {
	for _, proto := range []byte{api.TCP, api.UDP} {
		for _, n := range lengths() {
			b := slices.Concat(checkMake(t, from, where, proto, n), row(n))
			checkRead(t, b, is(proto, n))
			checkDest(t, b, other)
			checkReason(t, b[:len(b)-1], api.Short)
		}
	}
	checkReason(t, slices.Concat(checkMake(t, from, where, 41, 8), row(8)), api.NotL4)
	checkReason(t, slices.Concat(checkMake(t, from, where, 44, 8), row(8)), api.Fragment)
}

func checkNoMake(t *testing.T, src, dst api.Addr, length int) {
	t.Helper()
	for _, proto := range []byte{0, 4, api.TCP, api.UDP, 41, 44, 255} {
		if b, ok := ipsix.Make(src, dst, proto, length); len(b) != 0 || ok {
			t.Errorf("Make(%v, %v, %d, %d) = %v, %v", src, dst, proto, length, b, ok)
		}
	}
}

// P6.2: false, with no header, of a length that can't be.
func TestMakeLength(t *testing.T) {
	for _, length := range []int{-1, -2, -40, -41, math.MinInt, math.MinInt32, -65536, 65536, 65537, 65575, 65576, 1 << 20, math.MaxInt32, math.MaxInt - 39, math.MaxInt} {
		checkNoMake(t, from, where, length)
		checkNoMake(t, four, four, length)
	}
}

// P6.2: false, with no header, unless both addresses are V6, whatever their bytes.
func TestMakeNotSix(t *testing.T) {
	for _, length := range []int{0, 8, top} {
		for _, a := range []api.Addr{{}, four, {B: where.B}} {
			checkNoMake(t, a, where, length)
			checkNoMake(t, from, a, length)
			checkNoMake(t, a, a, length)
		}
	}
}

// P6.3: each header that is made is new memory.
func TestMakeNew(t *testing.T) {
	one, two := checkMake(t, from, where, 6, 8), checkMake(t, from, where, 6, 8)
	for i := range one {
		one[i]++
	}
	clear(one[len(one):cap(one)])
	if !bytes.Equal(two, checkMake(t, from, where, 6, 8)) {
		t.Errorf("two headers share memory: %v", two)
	}
}
