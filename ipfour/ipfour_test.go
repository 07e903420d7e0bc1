package ipfour_test

import (
	"bytes"
	"math"
	"slices"
	"testing"

	"bazaar/addr"
	"bazaar/api"
	"bazaar/ipfour"
)

const top = 65535

// total is b's words, added to start, gone round; b is of an even length.
func total(b []byte, start int) int {
	for i := 0; i < len(b); i += 2 {
		start += int(b[i])<<8 + int(b[i+1])
	}
	if start == 0 {
		return 0
	}
	return (start-1)%top + 1
}

// number is two bytes of b.
func number(b []byte, at int) int {
	return int(b[at])<<8 + int(b[at+1])
}

// put is b with part at a place.
func put(b []byte, at int, part ...byte) []byte {
	out := bytes.Clone(b)
	copy(out[at:], part)
	return out
}

// sealed is b with the checksum of a header of so many bytes.
func sealed(b []byte, size int) []byte {
	out := put(b, 10, 0, 0)
	sum := top - total(out[:size], 0)
	return put(out, 10, byte(sum>>8), byte(sum))
}

// row is n bytes, none of them 0, of which no two neighbours are the same.
func row(n int) []byte {
	b := make([]byte, n)
	for i := range b {
		b[i] = byte(i%250 + 3)
	}
	return b
}

// noise answers rows of bytes, always the same ones.
type noise uint32

func (n *noise) row(size int) []byte {
	b := make([]byte, size)
	for i := range b {
		*n = *n*1664525 + 1013904223
		b[i] = byte(*n >> 24)
	}
	return b
}

var (
	from  = addr.V4(10, 1, 2, 3)
	where = addr.V4(192, 168, 200, 255)
	six   = api.Addr{V6: true, B: [16]byte{0x20, 1, 0x0d, 0xb8, 15: 1}}
)

// packet is a good one: a header of size bytes, and n bytes behind.
func packet(proto byte, size, n int) []byte {
	length := size + n
	b := []byte{
		byte(0x40 + size/4), 0x10, byte(length >> 8), byte(length), 0x12, 0x34, 0x40, 0, 63, proto, 0, 0,
		10, 1, 2, 3, 192, 168, 200, 255,
	}
	return sealed(slices.Concat(b, row(size-20), row(n)), size)
}

// is the header of a packet.
func is(proto byte, size, n int) ipfour.Head {
	return ipfour.Head{Size: size, Length: size + n, Proto: proto, Src: from, Dst: where}
}

// held calls do, and holds all of b's memory against what it was.
func held(t *testing.T, what string, b []byte, do func()) {
	t.Helper()
	was := bytes.Clone(b[:cap(b)])
	do()
	if !bytes.Equal(b[:cap(b)], was) {
		t.Errorf("%s has changed what was handed in, or its spare room:\n got %v\n was %v", what, b[:cap(b)], was)
	}
}

func front(b []byte) []byte {
	return b[:min(len(b), 28)]
}

func checkRead(t *testing.T, b []byte, want ipfour.Head) {
	t.Helper()
	held(t, "Read", b, func() {
		if got, reason := ipfour.Read(b); got != want || reason != 0 {
			t.Errorf("Read of %d bytes %v .. = %v, %d; want %v", len(b), front(b), got, reason, want)
		}
	})
}

// checkReason: Read tells it, and no header; Dest tells nothing.
func checkReason(t *testing.T, b []byte, want int) {
	t.Helper()
	held(t, "Read", b, func() {
		if got, reason := ipfour.Read(b); got != (ipfour.Head{}) || reason != want {
			t.Errorf("Read of %d bytes %v .. = %v, %d; want reason %d", len(b), front(b), got, reason, want)
		}
	})
	held(t, "Dest", b, func() {
		if out := ipfour.Dest(b, where); len(out) != 0 {
			t.Errorf("Dest of %d bytes %v .., of which Read tells %d: %v", len(b), front(b), want, out)
		}
	})
}

// P5.1: packets of TCP and of UDP, each Size that may be, just as long as Length, and with more behind.
func TestRead(t *testing.T) {
	for _, proto := range []byte{api.TCP, api.UDP} {
		for size := 20; size <= 60; size += 4 {
			for _, n := range []int{0, 1, 2, 8, 20, 235, 236, 1480, top - size} {
				b := packet(proto, size, n)
				checkRead(t, b, is(proto, size, n))
				checkRead(t, slices.Concat(b, []byte{0}), is(proto, size, n))
				checkRead(t, slices.Concat(b, row(26)), is(proto, size, n))
				checkRead(t, slices.Concat(b, row(1<<17)), is(proto, size, n))
			}
		}
	}
}

// P5.1: a header that others made.
func TestReadKnown(t *testing.T) {
	b := []byte{0x45, 0, 0, 0x73, 0, 0, 0x40, 0, 0x40, 0x11, 0xb8, 0x61, 0xc0, 0xa8, 0, 1, 0xc0, 0xa8, 0, 0xc7}
	b = append(b, row(95)...)
	checkRead(t, b, ipfour.Head{Size: 20, Length: 115, Proto: 17, Src: addr.V4(192, 168, 0, 1), Dst: addr.V4(192, 168, 0, 199)})
	checkReason(t, b[:114], api.Short)
	checkReason(t, put(b, 10, 0xb8, 0x62), api.BadSum)
}

// P5.1: each byte of both addresses, in order, and nothing behind them.
func TestReadAddresses(t *testing.T) {
	for _, a := range []api.Addr{{}, addr.V4(1, 2, 3, 4), addr.V4(0, 0, 0, 255), addr.V4(128, 0, 0, 0), addr.V4(255, 255, 255, 255)} {
		for _, z := range []api.Addr{{}, addr.V4(5, 6, 7, 8), addr.V4(255, 0, 0, 0), addr.V4(255, 255, 255, 255)} {
			b := put(packet(api.TCP, 24, 9), 12, slices.Concat(a.B[:4], z.B[:4])...)
			checkRead(t, sealed(b, 24), ipfour.Head{Size: 24, Length: 33, Proto: api.TCP, Src: a, Dst: z})
		}
	}
}

// P5.1: what is not named may be anything: type of service, identification, time to live, options, and what is behind Size.
func TestReadOther(t *testing.T) {
	b := packet(api.UDP, 28, 9)
	for _, at := range []int{1, 4, 5, 8, 20, 21, 26, 27, 28, 36} {
		for _, v := range []byte{0, 1, 4, 0x1f, 0x80, 0xff} {
			checkRead(t, sealed(put(b, at, v), 28), is(api.UDP, 28, 9))
		}
	}
}

// P5.1: Short of fewer than 20 bytes, whatever they are, and whatever is in the spare room.
func TestReadFew(t *testing.T) {
	b := packet(api.TCP, 20, 9)
	for n := range 20 {
		checkReason(t, b[:n], api.Short)
		checkReason(t, bytes.Clone(b[:n:n]), api.Short)
		checkReason(t, make([]byte, n), api.Short)
		checkReason(t, bytes.Repeat([]byte{255}, n), api.Short)
	}
	checkReason(t, nil, api.Short)
	checkReason(t, put(b, 0, 0x44)[:19], api.Short)
}

// P5.1: of the first byte each version but 4, and each Size below 20, is BadHead, also where there are as many bytes alone.
func TestReadFirstByte(t *testing.T) {
	for v := range 256 {
		size := v & 15 * 4
		b := put(packet(api.TCP, 60, 8), 0, byte(v))
		b = sealed(b, max(size, 20))
		if v>>4 != 4 || size < 20 {
			checkReason(t, b, api.BadHead)
			checkReason(t, b[:20], api.BadHead)
			continue
		}
		checkRead(t, b, ipfour.Head{Size: size, Length: 68, Proto: api.TCP, Src: from, Dst: where})
		checkReason(t, b[:20], api.Short)
	}
}

// P5.1: Length is Size at least.
func TestReadLength(t *testing.T) {
	for size := 20; size <= 60; size += 4 {
		for length := range 80 {
			b := sealed(put(packet(api.UDP, size, 60), 2, 0, byte(length)), size)
			if length < size {
				checkReason(t, b, api.BadHead)
				checkReason(t, b[:20], api.BadHead)
				continue
			}
			checkRead(t, b, ipfour.Head{Size: size, Length: length, Proto: api.UDP, Src: from, Dst: where})
		}
	}
	b := packet(api.UDP, 20, 1000)
	checkReason(t, sealed(put(b, 2, 0, 19), 20), api.BadHead)
	checkReason(t, sealed(put(b, 2, 0, 0), 20), api.BadHead)
	checkRead(t, sealed(put(b, 2, 1, 0), 20), is(api.UDP, 20, 236))
}

// P5.1: Short of a packet that ends ahead of Size, or of Length, by one byte, too; the spare room is none of it.
func TestReadShort(t *testing.T) {
	for _, size := range []int{20, 24, 60} {
		for _, n := range []int{0, 1, 8, 300} {
			b := packet(api.TCP, size, n)
			checkRead(t, b, is(api.TCP, size, n))
			for most := 20; most < size+n; most++ {
				checkReason(t, b[:most], api.Short)
			}
			if n+size > 20 {
				checkReason(t, bytes.Clone(b[:size+n-1:size+n-1]), api.Short)
			}
		}
	}
	b := packet(api.TCP, 20, top-20)
	checkRead(t, b, is(api.TCP, 20, top-20))
	checkReason(t, b[:top-1], api.Short)
}

// P5.1: BadSum of each bit of the header that is turned, options too; none behind it.
func TestReadSum(t *testing.T) {
	for _, size := range []int{20, 24, 60} {
		b := packet(api.TCP, size, 11)
		for at := range b {
			for bit := range 8 {
				turned := put(b, at, b[at]^1<<bit)
				if at >= size {
					checkRead(t, turned, is(api.TCP, size, 11))
				} else if at == 1 || at > 3 {
					checkReason(t, turned, api.BadSum)
				}
			}
		}
		short := put(b, 3, byte(size+10))
		checkReason(t, short, api.BadSum)
	}
	checkReason(t, put(packet(api.TCP, 20, 11), 10, 0, 0), api.BadSum)
}

// P5.1: the sum is the one of Size bytes: not of the first 20, nor of all.
func TestReadSumOfSize(t *testing.T) {
	b := packet(api.UDP, 32, 10)
	checkReason(t, sealed(b, 20), api.BadSum)
	checkReason(t, sealed(b, 30), api.BadSum)
	checkReason(t, sealed(b, 34), api.BadSum)
	checkReason(t, sealed(b, 42), api.BadSum)
	checkRead(t, sealed(b, 32), is(api.UDP, 32, 10))
}

// P5.1: of a checksum 0 and 65535 are one.
func TestReadSumEnds(t *testing.T) {
	b := zeroSum(packet(api.TCP, 20, 4))
	checkRead(t, put(b, 10, 0, 0), is(api.TCP, 20, 4))
	checkRead(t, put(b, 10, 0xff, 0xff), is(api.TCP, 20, 4))
	checkReason(t, put(b, 10, 0, 1), api.BadSum)
	checkReason(t, put(b, 10, 0xff, 0xfe), api.BadSum)
}

// zeroSum is b, a header of 20 bytes ahead, whose identification makes its checksum 0.
func zeroSum(b []byte) []byte {
	b = put(b, 4, 0, 0)
	sum := sealed(b, 20)[10:12]
	return put(b, 4, sum[0], sum[1], b[6], b[7], b[8], b[9], 0, 0)
}

// P5.1: a fragment: the first, one in the middle, the last; each bit of the offset; not the flags that say nothing of it.
func TestReadFragment(t *testing.T) {
	read := func(v int) []byte {
		return sealed(put(packet(api.TCP, 20, 16), 6, byte(v>>8), byte(v)), 20)
	}
	for _, whole := range []int{0, 0x4000, 0x8000, 0xc000} {
		checkRead(t, read(whole), is(api.TCP, 20, 16))
		checkReason(t, read(whole|0x2000), api.Fragment)
		checkReason(t, read(whole|0x2000|1), api.Fragment)
		checkReason(t, read(whole|0x2000|0x1fff), api.Fragment)
		checkReason(t, read(whole|0x1fff), api.Fragment)
		for bit := range 13 {
			checkReason(t, read(whole|1<<bit), api.Fragment)
		}
	}
}

// P5.1: of all the protocols two alone.
func TestReadProto(t *testing.T) {
	for v := range 256 {
		b := packet(byte(v), 24, 16)
		if v == api.TCP || v == api.UDP {
			checkRead(t, b, is(byte(v), 24, 16))
		} else {
			checkReason(t, b, api.NotL4)
		}
	}
}

// P5.1: of the reasons that hold the first one, in whatever company.
func TestReadFirst(t *testing.T) {
	reasons := []int{api.Short, api.BadHead, api.BadHead, api.BadHead, api.Short, api.BadSum, api.Fragment, api.NotL4}
	for set := range 1 << len(reasons) {
		has := func(i int) bool { return set>>i&1 == 1 }
		want := 0
		for i, reason := range reasons {
			if has(i) && want == 0 {
				want = reason
			}
		}
		b := faulty(has)
		if want == 0 {
			checkRead(t, b, is(api.UDP, 24, 12))
		} else {
			checkReason(t, b, want)
		}
	}
}

// faulty is a packet with some faults, told by their places among the reasons.
func faulty(has func(int) bool) []byte {
	b := packet(api.UDP, 24, 12)
	if has(1) {
		b[0] = 0x65
	}
	if has(2) {
		b[0] = b[0]&0xf0 | 4
	}
	if has(3) {
		b[3] = 15
	}
	if has(6) {
		b[6] = 0x20
	}
	if has(7) {
		b[9] = 1
	}
	b = sealed(b, 24)
	if has(5) {
		b[11] ^= 4
	}
	if has(4) {
		b = b[:30]
	}
	if has(0) {
		b = b[:19]
	}
	return b
}

// changed is the checksum in which two words are others: RFC 1624, the third equation, told in another way.
func changed(old int, was, now []byte) int {
	for at := 0; at < len(was); at += 2 {
		old = top - total(now[at:at+2], top-old+top-number(was, at))
	}
	return old
}

func checkDest(t *testing.T, b []byte, to api.Addr) []byte {
	t.Helper()
	sum := changed(number(b, 10), b[16:20], to.B[:4])
	want := put(put(b, 10, byte(sum>>8), byte(sum)), 16, to.B[:4]...)
	var out []byte
	held(t, "Dest", b, func() { out = ipfour.Dest(b, to) })
	if !bytes.Equal(out, want) {
		t.Fatalf("Dest of %d bytes, to %v:\n got %d bytes %v\nwant %d bytes %v", len(b), to.B[:4], len(out), front(out), len(want), front(want))
	}
	return out
}

// places is where packets may go.
func places() []api.Addr {
	return []api.Addr{
		{}, addr.V4(0, 0, 0, 1), addr.V4(1, 2, 3, 4), addr.V4(10, 0, 0, 1), from, where, addr.V4(192, 168, 7, 200),
		addr.V4(0, 0, 255, 255), addr.V4(255, 255, 0, 0), addr.V4(255, 255, 255, 254), addr.V4(255, 255, 255, 255),
	}
}

// P5.2: destination and checksum, nothing else, whatever the packet has, options and bytes behind Length too; P5.3: Read tells no reason of it.
func TestDest(t *testing.T) {
	for _, proto := range []byte{api.TCP, api.UDP} {
		for _, size := range []int{20, 24, 60} {
			for _, n := range []int{0, 1, 8, 1480, top - size} {
				for _, more := range []int{0, 1, 26} {
					b := slices.Concat(packet(proto, size, n), row(more))
					for _, to := range places() {
						want := is(proto, size, n)
						want.Dst = to
						checkRead(t, checkDest(t, b, to), want)
					}
				}
			}
		}
	}
}

// P5.2, P5.3: of whatever Read reads.
func TestDestOfNoise(t *testing.T) {
	n := noise(5)
	for i := range 3000 {
		size := 20 + i%11*4
		b := n.row(size + i%97)
		copy(b, packet([]byte{api.TCP, api.UDP}[i%2], size, i%89%(i%97+1))[:4])
		b[6], b[7], b[9] = b[6]&0xc0, 0, []byte{api.TCP, api.UDP}[i%2]
		b = sealed(b, size)
		h, reason := ipfour.Read(b)
		if reason != 0 {
			t.Fatalf("Read of %v: %d", b, reason)
		}
		h.Dst = addr.V4(b[0]^b[4], b[5], b[11], b[10])
		checkRead(t, checkDest(t, b, h.Dst), h)
	}
}

// P5.2: to where it goes: nothing is another.
func TestDestSame(t *testing.T) {
	b := packet(api.TCP, 24, 8)
	if out := checkDest(t, b, where); !bytes.Equal(out, b) {
		t.Errorf("got %v, want %v", out, b)
	}
	back := checkDest(t, checkDest(t, b, addr.V4(1, 2, 3, 4)), where)
	if !bytes.Equal(back, b) {
		t.Errorf("there and back: got %v, want %v", back, b)
	}
}

// P5.2: a checksum that becomes 0, and one that was.
func TestDestSumZero(t *testing.T) {
	b := zeroSum(packet(api.UDP, 20, 8))
	away := checkDest(t, b, addr.V4(1, 2, 3, 4))
	if number(away, 10) == 0 {
		t.Errorf("away: the checksum is 0: %v", away)
	}
	back := checkDest(t, away, where)
	if number(back, 10) != 0 {
		t.Errorf("back: the checksum is %v", back[10:12])
	}
	checkRead(t, back, is(api.UDP, 20, 8))
}

// P5.2: the checksum is changed, not made anew: 65535 may stay so, which Check never makes.
func TestDestSumTop(t *testing.T) {
	b := zeroSum(put(packet(api.UDP, 20, 8), 16, 255, 255, 255, 255))
	b[10], b[11] = 255, 255
	for _, c := range []struct {
		to   api.Addr
		want int
	}{
		{addr.V4(255, 255, 255, 255), 0},
		{addr.V4(0, 0, 255, 255), 0},
		{addr.V4(255, 255, 0, 0), 0},
		{addr.V4(0, 0, 0, 0), top},
		{addr.V4(0, 0, 0, 1), top - 1},
	} {
		out := checkDest(t, b, c.to)
		if got := number(out, 10); got != c.want {
			t.Errorf("to %v: the checksum is %d; want %d", c.to.B[:4], got, c.want)
		}
		checkRead(t, out, ipfour.Head{Size: 20, Length: 28, Proto: api.UDP, Src: from, Dst: c.to})
	}
}

// P5.2: none to an address that is not of IPv4, whatever its bytes, and whatever the packet is.
func TestDestNotIPv4(t *testing.T) {
	for _, b := range [][]byte{packet(api.TCP, 20, 8), packet(api.UDP, 60, 8), packet(1, 20, 8), nil} {
		for _, to := range []api.Addr{{V6: true}, six, {V6: true, B: where.B}} {
			held(t, "Dest", b, func() {
				if out := ipfour.Dest(b, to); len(out) != 0 {
					t.Errorf("Dest to %v: %v", to, out)
				}
			})
		}
	}
}

// P5.2: one of IPv4 is its first four bytes, also where it is not Valid.
func TestNotValid(t *testing.T) {
	odd := api.Addr{B: [16]byte{1, 2, 3, 4, 5, 6, 7, 8, 9, 10, 11, 12, 13, 14, 15, 16}}
	out := checkDest(t, packet(api.TCP, 24, 8), odd)
	want := is(api.TCP, 24, 8)
	want.Dst = addr.V4(1, 2, 3, 4)
	checkRead(t, out, want)
	checkMake(t, odd, from, 6, 0)
	checkMake(t, from, odd, 6, 0)
}

// P5.3: what Dest answers shares no memory with what was handed in, nor with another answer.
func TestDestNew(t *testing.T) {
	to := addr.V4(1, 2, 3, 4)
	for _, b := range [][]byte{packet(api.TCP, 20, 8), packet(api.UDP, 24, 40)[:64:64], slices.Concat(packet(api.TCP, 20, 8), row(9))[:28]} {
		one, two := ipfour.Dest(b, to), ipfour.Dest(b, to)
		want := bytes.Clone(two)
		held(t, "a change of what is answered", b, func() {
			for i := range one {
				one[i]++
			}
			clear(one[len(one):cap(one)])
		})
		clear(b[:cap(b)])
		if !bytes.Equal(two, want) {
			t.Errorf("what is answered shares memory: %v, was %v", two, want)
		}
	}
}

// P5.3: nothing is kept: an answer hangs on the bytes alone, whatever was asked ahead of it.
func TestNotKept(t *testing.T) {
	b := packet(api.TCP, 20, 8)
	h, _ := ipfour.Read(b)
	copy(b, packet(api.UDP, 20, 7))
	checkRead(t, b, is(api.UDP, 20, 7))
	if h != is(api.TCP, 20, 8) {
		t.Errorf("the header that was answered is another one now: %v", h)
	}
	checkDest(t, b, addr.V4(1, 2, 3, 4))
	b[0] = 0x55
	checkReason(t, b, api.BadHead)
	copy(b, packet(api.TCP, 20, 8))
	checkRead(t, b, is(api.TCP, 20, 8))
}

func checkMake(t *testing.T, src, dst api.Addr, proto byte, length int) []byte {
	t.Helper()
	all := 20 + length
	want := slices.Concat([]byte{0x45, 0, byte(all >> 8), byte(all), 0, 0, 0x40, 0, 64, proto, 0, 0}, src.B[:4], dst.B[:4])
	want = sealed(want, 20)
	got, ok := ipfour.Make(src, dst, proto, length)
	if !bytes.Equal(got, want) || !ok {
		t.Errorf("Make(%v, %v, %d, %d) = %v, %v; want %v", src.B[:4], dst.B[:4], proto, length, got, ok, want)
	}
	return got
}

// P5.2: a header of 20 bytes, of each protocol, each length at an edge, and all addresses.
func TestMake(t *testing.T) {
	for proto := range 256 {
		checkMake(t, from, where, byte(proto), 8)
	}
	for _, length := range []int{0, 1, 2, 8, 235, 236, 256, 1480, 32747, 32748, 65514, 65515} {
		for _, src := range places() {
			for _, dst := range places() {
				checkMake(t, src, dst, api.TCP, length)
				checkMake(t, src, dst, 4, length)
			}
		}
	}
	want := []byte{69, 0, 1, 20, 0, 0, 64, 0, 64, 4, 41, 211, 1, 2, 3, 4, 5, 6, 7, 8}
	if got, ok := ipfour.Make(addr.V4(1, 2, 3, 4), addr.V4(5, 6, 7, 8), 4, 0x100); !bytes.Equal(got, want) || !ok {
		t.Errorf("got %v, %v; want %v", got, ok, want)
	}
}

// P5.2: a checksum that is 0: not 65535.
func TestMakeSumZero(t *testing.T) {
	rest := total([]byte{0x45, 0, 0, 28, 0, 0, 0x40, 0, 64, 17, 10, 1, 2, 3, 0, 0}, 0)
	dst := addr.V4(0, 0, byte((top-rest)>>8), byte(top-rest))
	if b := checkMake(t, from, dst, api.UDP, 8); number(b, 10) != 0 {
		t.Errorf("the checksum is %v", b[10:12])
	}
}

// P5.2: what is made is read.
func TestReadOfMake(t *testing.T) {
	for _, proto := range []byte{api.TCP, api.UDP} {
		for _, length := range []int{0, 1, 8, 1480, 65515} {
			b := slices.Concat(checkMake(t, from, where, proto, length), row(length))
			checkRead(t, b, is(proto, 20, length))
			checkDest(t, b, addr.V4(1, 2, 3, 4))
			if length > 0 {
				checkReason(t, b[:len(b)-1], api.Short)
			}
		}
	}
	b := slices.Concat(checkMake(t, from, where, 4, 8), row(8))
	checkReason(t, b, api.NotL4)
}

// P5.2: false, with no header, of a length that can't be, or of an address that is not of IPv4.
func TestMakeNone(t *testing.T) {
	none := func(src, dst api.Addr, length int) {
		t.Helper()
		for _, proto := range []byte{0, 4, api.TCP, api.UDP, 41, 255} {
			if b, ok := ipfour.Make(src, dst, proto, length); len(b) != 0 || ok {
				t.Errorf("Make(%v, %v, %d, %d) = %v, %v", src, dst, proto, length, b, ok)
			}
		}
	}
	for _, length := range []int{-1, -2, -20, -21, math.MinInt, math.MinInt32, 65516, 65517, 65535, 65536, 65556, 1 << 20, math.MaxInt32, 1<<32 + 8, math.MaxInt - 19, math.MaxInt} {
		none(from, where, length)
		none(six, six, length)
	}
	for _, length := range []int{0, 8, 65515} {
		for _, a := range []api.Addr{{V6: true}, six, {V6: true, B: where.B}} {
			none(a, where, length)
			none(from, a, length)
			none(a, a, length)
		}
	}
}

// P5.3: each header that is made is new memory.
func TestMakeNew(t *testing.T) {
	one, two := checkMake(t, from, where, 6, 8), checkMake(t, from, where, 6, 8)
	for i := range one {
		one[i]++
	}
	clear(one[len(one):cap(one)])
	if !bytes.Equal(two, checkMake(t, from, where, 6, 8)) {
		t.Errorf("two headers share memory: %v", two)
	}
}
