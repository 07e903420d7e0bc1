package seg_test

import (
	"bytes"
	"slices"
	"testing"

	"bazaar/addr"
	"bazaar/api"
	"bazaar/seg"
)

const top = 65535

var (
	from4  = addr.V4(10, 1, 2, 3)
	where4 = addr.V4(192, 168, 200, 255)
	other4 = addr.V4(172, 16, 7, 200)
	from6  = api.Addr{V6: true, B: [16]byte{0x20, 1, 0x0d, 0xb8, 5, 6, 7, 8, 9, 10, 11, 12, 13, 14, 15, 16}}
	where6 = api.Addr{V6: true, B: [16]byte{0xfd, 200, 199, 198, 197, 196, 195, 194, 193, 192, 191, 190, 189, 188, 187, 255}}
	other6 = api.Addr{V6: true, B: [16]byte{0xfe, 0x80, 13: 7, 15: 200}}
)

// route is who sends, to whom, and to whom it may go instead.
type route struct{ src, dst, to api.Addr }

// routes is one of each kind.
func routes() []route {
	return []route{{from4, where4, other4}, {from6, where6, other6}}
}

// mixed is pairs that are not of one kind.
func mixed() [][2]api.Addr {
	return [][2]api.Addr{{from4, where6}, {from6, where4}, {{}, {V6: true}}, {{V6: true}, {}}, {where4, {V6: true, B: where4.B}}, {{V6: true, B: where4.B}, where4}}
}

func protos() []byte {
	return []byte{api.TCP, api.UDP}
}

// total is b's words, added to start, gone round; the last one of an odd b has a 0 behind.
func total(b []byte, start int) int {
	for i, n := range b {
		if i%2 == 0 {
			start += int(n) * 256
		} else {
			start += int(n)
		}
	}
	if start == 0 {
		return 0
	}
	return (start-1)%top + 1
}

// ahead is the pseudo header's sum, told by numbers alone.
func ahead(proto byte, n int, src, dst api.Addr) int {
	size := 4
	if src.V6 {
		size = 16
	}
	start := int(proto) + total(src.B[:size], 0) + total(dst.B[:size], 0)
	if src.V6 {
		return start + n>>16 + n%65536
	}
	return start + n%65536
}

// whole is the sum of pseudo header and segment.
func whole(proto byte, b []byte, src, dst api.Addr) int {
	return total(b, ahead(proto, len(b), src, dst))
}

func placeOf(proto byte) int {
	return map[byte]int{api.TCP: 16, api.UDP: 6}[proto]
}

// least is how many bytes a header has.
func least(proto byte) int {
	return map[byte]int{api.TCP: 20, api.UDP: 8}[proto]
}

// number is two bytes of b.
func number(b []byte, at int) int {
	return int(b[at])<<8 + int(b[at+1])
}

// put is b with part at a place.
func put(b []byte, at int, part ...byte) []byte {
	out := bytes.Clone(b)
	copy(out[at:], part)
	return out
}

// putSum is b with a checksum.
func putSum(proto byte, b []byte, sum int) []byte {
	return put(b, placeOf(proto), byte(sum>>8), byte(sum))
}

// sealed is b with its checksum between two addresses.
func sealed(proto byte, b []byte, src, dst api.Addr) []byte {
	sum := top - whole(proto, putSum(proto, b, 0), src, dst)
	if sum == 0 && proto == api.UDP {
		sum = top
	}
	return putSum(proto, b, sum)
}

// row is n bytes, none of them 0, of which no two neighbours are the same.
func row(n int) []byte {
	b := make([]byte, n)
	for i := range b {
		b[i] = byte(i%250 + 3)
	}
	return b
}

// noise answers rows of bytes, always the same ones.
type noise uint32

func (n *noise) row(size int) []byte {
	b := make([]byte, size)
	for i := range b {
		*n = *n*1664525 + 1013904223
		b[i] = byte(*n >> 24)
	}
	return b
}

// options is TCP with a header of size bytes, each of which says something, and n bytes behind; its checksum is of nothing.
func options(size, n int) []byte {
	b := []byte{0x12, 0x34, 0xab, 0xcd, 1, 2, 3, 4, 5, 6, 7, 8, byte(size/4)<<4 | 0x0e, 0x5a, 0x71, 0x82, 0x93, 0xa4, 0xb5, 0xc6}
	return slices.Concat(b, row(size-20), row(n))
}

// segment is one without options, n bytes behind; its checksum is of nothing.
func segment(proto byte, n int) []byte {
	if proto == api.TCP {
		return options(20, n)
	}
	return slices.Concat([]byte{0x12, 0x34, 0xab, 0xcd, byte((8 + n) >> 8), byte(8 + n), 0x93, 0xa4}, row(n))
}

// good is one with its checksum.
func good(proto byte, n int, r route) []byte {
	return sealed(proto, segment(proto, n), r.src, r.dst)
}

// is the header of a segment.
func is(proto byte) seg.Head {
	if proto == api.UDP {
		return seg.Head{Src: 0x1234, Dst: 0xabcd}
	}
	return seg.Head{Src: 0x1234, Dst: 0xabcd, Flags: 0x5a}
}

// sizes is data of none, of few, even and odd, of those where a byte of the length turns, and of most.
func sizes() []int {
	return []int{0, 1, 2, 3, 8, 39, 40, 235, 236, 247, 248, 255, 256, 1460, 32759, 32760, 65514, 65515}
}

// held calls do, and holds all of b's memory against what it was.
func held(t *testing.T, what string, b []byte, do func()) {
	t.Helper()
	was := bytes.Clone(b[:cap(b)])
	do()
	if !bytes.Equal(b[:cap(b)], was) {
		t.Errorf("%s has changed what was handed in, or its spare room:\n got %v\n was %v", what, b[:cap(b)], was)
	}
}

func front(b []byte) []byte {
	return b[:min(len(b), 28)]
}

func checkRead(t *testing.T, proto byte, b []byte, want seg.Head) {
	t.Helper()
	held(t, "Read", b, func() {
		if got, reason := seg.Read(proto, b); got != want || reason != 0 {
			t.Errorf("Read of %d, %d bytes %v .. = %v, %d; want %v", proto, len(b), front(b), got, reason, want)
		}
	})
}

// checkReason: Read tells it, and no header; Port answers none, and nothing is good, of either kind.
func checkReason(t *testing.T, proto byte, b []byte, want int) {
	t.Helper()
	held(t, "Read", b, func() {
		if got, reason := seg.Read(proto, b); got != (seg.Head{}) || reason != want {
			t.Errorf("Read of %d, %d bytes %v .. = %v, %d; want reason %d", proto, len(b), front(b), got, reason, want)
		}
	})
	for _, r := range routes() {
		checkNoPort(t, proto, b, r.dst, r.to)
		checkGood(t, proto, b, r.src, r.dst, false)
	}
}

func checkNoPort(t *testing.T, proto byte, b []byte, from, dst api.Addr) {
	t.Helper()
	held(t, "Port", b, func() {
		if out := seg.Port(proto, b, 80, from, dst); len(out) != 0 {
			t.Errorf("Port of %d, %d bytes %v .., from %v to %v: %v; want none", proto, len(b), front(b), from, dst, front(out))
		}
	})
}

func checkGood(t *testing.T, proto byte, b []byte, src, dst api.Addr, want bool) {
	t.Helper()
	held(t, "Good", b, func() {
		if got := seg.Good(proto, b, src, dst); got != want {
			t.Errorf("Good of %d, %d bytes %v .., %v to %v = %v", proto, len(b), front(b), src, dst, got)
		}
	})
}

// P7.1: segments of both, with no data, an even and an odd number of bytes; the checksum is none of Read's.
func TestRead(t *testing.T) {
	for _, proto := range protos() {
		for _, n := range sizes() {
			checkRead(t, proto, segment(proto, n), is(proto))
			checkRead(t, proto, putSum(proto, segment(proto, n), 0), is(proto))
			checkRead(t, proto, bytes.Clone(segment(proto, n)), is(proto))
		}
	}
	checkRead(t, api.TCP, segment(api.TCP, 1<<17), is(api.TCP))
}

// P7.1: each field comes from its own bytes, and from them alone, the high one first.
func TestReadFields(t *testing.T) {
	for _, proto := range protos() {
		b := segment(proto, 9)
		for at := range b {
			if proto == api.TCP && at == 12 || proto == api.UDP && (at == 4 || at == 5) {
				continue
			}
			want := is(proto)
			switch {
			case at < 2:
				want.Src ^= 0x81 << (8 - 8*at)
			case at < 4:
				want.Dst ^= 0x81 << (24 - 8*at)
			case at == 13 && proto == api.TCP:
				want.Flags ^= 0x81
			}
			checkRead(t, proto, put(b, at, b[at]^0x81), want)
		}
		for _, c := range [][4]byte{{0, 0, 0, 0}, {255, 255, 255, 255}, {0, 1, 1, 0}, {1, 0, 0, 1}} {
			want := is(proto)
			want.Src, want.Dst = uint16(number(c[:], 0)), uint16(number(c[:], 2))
			checkRead(t, proto, put(b, 0, c[:]...), want)
		}
	}
}

// P7.1: Flags is TCP's low eight, all of them, and none of the bits beside the data offset; of UDP it is 0, whatever stands there.
func TestReadFlags(t *testing.T) {
	for v := range 256 {
		want := is(api.TCP)
		want.Flags = byte(v)
		for _, beside := range []byte{0, 1, 15} {
			checkRead(t, api.TCP, put(segment(api.TCP, 3), 12, 0x50|beside, byte(v)), want)
		}
		checkRead(t, api.UDP, put(segment(api.UDP, 20), 12, byte(v), byte(v)), is(api.UDP))
	}
	checkRead(t, api.TCP, put(segment(api.TCP, 0), 13, api.FIN|api.SYN|api.RST), seg.Head{Src: 0x1234, Dst: 0xabcd, Flags: 7})
}

// P7.1: NotL4 of every other proto, ahead of all other reasons, of no bytes, too.
func TestReadProto(t *testing.T) {
	rows := [][]byte{nil, {}, row(7), row(19), segment(api.TCP, 9), segment(api.UDP, 9), put(segment(api.TCP, 9), 12, 0x40), put(segment(api.UDP, 9), 4, 0, 7), make([]byte, 60)}
	for v := range 256 {
		if v == api.TCP || v == api.UDP {
			continue
		}
		for _, b := range rows {
			checkReason(t, byte(v), b, api.NotL4)
		}
	}
}

// P7.1: Short of fewer bytes than a header has, whatever they are, and whatever is in the spare room.
func TestReadFew(t *testing.T) {
	for _, proto := range protos() {
		for n := range least(proto) {
			checkReason(t, proto, segment(proto, 9)[:n], api.Short)
			checkReason(t, proto, bytes.Clone(segment(proto, 9)[:n:n]), api.Short)
			checkReason(t, proto, make([]byte, n), api.Short)
			checkReason(t, proto, bytes.Repeat([]byte{255}, n), api.Short)
			checkReason(t, proto, bytes.Repeat([]byte{0x50}, n), api.Short)
		}
		checkReason(t, proto, nil, api.Short)
		checkRead(t, proto, segment(proto, 0), is(proto))
	}
	checkReason(t, api.TCP, segment(api.UDP, 11), api.Short)
	checkReason(t, api.TCP, segment(api.UDP, 0), api.Short)
}

// P7.1: TCP's data offset is 20 at least, and b has as many bytes: just as many will do, one fewer will not.
func TestReadOffset(t *testing.T) {
	b := options(60, 9)
	for v := range 16 {
		size := v * 4
		for n := 20; n <= len(b); n++ {
			turned := put(b, 12, byte(v<<4)|b[12]&15)[:n]
			if size >= 20 && size <= n {
				checkRead(t, api.TCP, turned, is(api.TCP))
				checkRead(t, api.TCP, turned[:n:n], is(api.TCP))
			} else {
				checkReason(t, api.TCP, turned, api.BadHead)
				checkReason(t, api.TCP, bytes.Clone(turned[:n:n]), api.BadHead)
			}
		}
	}
	checkReason(t, api.TCP, put(segment(api.TCP, 1000), 12, 0x4f), api.BadHead)
	checkReason(t, api.TCP, put(segment(api.TCP, 1000), 12, 0x0f), api.BadHead)
	checkRead(t, api.TCP, put(segment(api.TCP, 1000), 12, 0xff), is(api.TCP))
}

// P7.1: UDP's length is 8 at least, and b has as many bytes; what more there is does no harm.
func TestReadLength(t *testing.T) {
	for _, n := range []int{0, 1, 2, 20, 247, 248, 249, 300, top - 8, top} {
		b := segment(api.UDP, n)
		for _, length := range []int{0, 1, 7, 8, 9, 19, 20, 255, 256, 257, 0x0700, 0x0800, n + 7, n + 8, n + 9, 32768, top - 1, top} {
			if length > top {
				continue
			}
			turned := put(b, 4, byte(length>>8), byte(length))
			if length >= 8 && length <= n+8 {
				checkRead(t, api.UDP, turned, is(api.UDP))
			} else {
				checkReason(t, api.UDP, turned, api.BadHead)
			}
		}
	}
	for n := 8; n < 300; n++ {
		checkReason(t, api.UDP, segment(api.UDP, 292)[:n], api.BadHead)
	}
	checkRead(t, api.UDP, segment(api.UDP, 292), is(api.UDP))
}

// P7.1: of the reasons that hold the first one, in whatever company.
func TestReadFirst(t *testing.T) {
	for set := range 8 {
		for _, proto := range protos() {
			b, asked, want := segment(proto, 12), proto, 0
			if set&4 != 0 {
				b, want = badSize(proto, b), api.BadHead
			}
			if set&2 != 0 {
				b, want = b[:least(proto)-1], api.Short
			}
			if set&1 != 0 {
				asked, want = 1, api.NotL4
			}
			if want == 0 {
				checkRead(t, asked, b, is(proto))
			} else {
				checkReason(t, asked, b, want)
			}
		}
	}
}

// badSize is b with a size that can't be.
func badSize(proto byte, b []byte) []byte {
	if proto == api.TCP {
		return put(b, 12, 0x40)
	}
	return put(b, 4, 0, 7)
}

// P7.1: whatever the bytes, there is one answer, and it is the one of the rule told in another way.
func TestReadOfNoise(t *testing.T) {
	n := noise(7)
	for i := range 20000 {
		b := n.row(i % 90)
		proto := protos()[i%2]
		if len(b) > 12 && i%3 > 0 {
			b[4], b[12] = 0, b[12]&0x8f
		}
		if len(b) < least(proto) {
			checkReason(t, proto, b, api.Short)
			continue
		}
		size, want := number(b, 4), seg.Head{Src: uint16(number(b, 0)), Dst: uint16(number(b, 2))}
		if proto == api.TCP {
			size, want.Flags = int(b[12])/16*4, b[13]
		}
		if size < least(proto) || size > len(b) {
			checkReason(t, proto, b, api.BadHead)
		} else {
			checkRead(t, proto, b, want)
		}
	}
}

// P7.2: checksums that were told by other means than these tests'.
func TestGoodKnown(t *testing.T) {
	tcp := []byte{0x12, 0x34, 0, 80, 0, 0, 0, 1, 0, 0, 0, 2, 0x50, 0x12, 1, 0, 0, 0, 0, 0}
	udp := []byte{0, 53, 0xff, 1, 0, 8, 0, 0}
	for _, c := range []struct {
		data                   string
		tcp4, udp4, tcp6, udp6 int
	}{
		{"", 0x06a0, 0x6afb, 0xe7fd, 0x4c59},
		{"hello", 0xc2c8, 0x271f, 0xa426, 0x087d},
		{"hello!", 0xc2a6, 0x26fc, 0xa404, 0x085a},
	} {
		t6 := slices.Concat(tcp, []byte(c.data))
		u6 := put(slices.Concat(udp, []byte(c.data)), 5, byte(8+len(c.data)))
		for _, k := range []struct {
			proto byte
			b     []byte
			sum   int
			r     route
		}{{api.TCP, t6, c.tcp4, routes()[0]}, {api.UDP, u6, c.udp4, routes()[0]}, {api.TCP, t6, c.tcp6, routes()[1]}, {api.UDP, u6, c.udp6, routes()[1]}} {
			checkGood(t, k.proto, putSum(k.proto, k.b, k.sum), k.r.src, k.r.dst, true)
			checkGood(t, k.proto, putSum(k.proto, k.b, k.sum^1), k.r.src, k.r.dst, false)
			checkGood(t, k.proto, putSum(k.proto, k.b, top-k.sum), k.r.src, k.r.dst, false)
		}
	}
}

// P7.2: segments of all sizes, over both; with one more bit in the checksum they are not good.
func TestGood(t *testing.T) {
	for _, proto := range protos() {
		for _, r := range routes() {
			for _, n := range sizes() {
				b := good(proto, n, r)
				checkGood(t, proto, b, r.src, r.dst, true)
				checkGood(t, proto, b[:len(b):len(b)], r.src, r.dst, true)
				checkGood(t, proto, b, r.src, r.to, false)
				checkGood(t, proto, b, r.to, r.dst, false)
				sum := number(b, placeOf(proto))
				checkGood(t, proto, putSum(proto, b, sum+1), r.src, r.dst, false)
				checkGood(t, proto, putSum(proto, b, sum-1), r.src, r.dst, false)
			}
		}
	}
	for size := 20; size <= 60; size += 4 {
		for _, r := range routes() {
			b := sealed(api.TCP, options(size, 5), r.src, r.dst)
			checkGood(t, api.TCP, b, r.src, r.dst, true)
			checkGood(t, api.TCP, put(b, size-1, b[size-1]^2), r.src, r.dst, false)
		}
	}
}

// P7.2: no bit of a segment may be another one, nor one of an address.
func TestGoodBits(t *testing.T) {
	for _, proto := range protos() {
		for _, r := range routes() {
			for _, n := range []int{0, 7, 12} {
				b := good(proto, n, r)
				for at := range b {
					for bit := range 8 {
						checkGood(t, proto, put(b, at, b[at]^1<<bit), r.src, r.dst, false)
					}
				}
				size := 4
				if r.src.V6 {
					size = 16
				}
				for at := range size {
					for bit := range 8 {
						src, dst := r.src, r.dst
						src.B[at] ^= 1 << bit
						dst.B[at] ^= 1 << bit
						checkGood(t, proto, b, src, r.dst, false)
						checkGood(t, proto, b, r.src, dst, false)
					}
				}
			}
		}
	}
}

// P7.2: the pseudo header has proto in it, and just as many bytes as b has, those behind UDP's length among them.
func TestGoodPseudo(t *testing.T) {
	for _, r := range routes() {
		for _, proto := range protos() {
			b := good(proto, 13, r)
			checkGood(t, proto, slices.Concat(b, []byte{0}), r.src, r.dst, false)
			checkGood(t, proto, slices.Concat(b, []byte{0, 0}), r.src, r.dst, false)
		}
		more := slices.Concat(segment(api.UDP, 13), row(5))
		checkGood(t, api.UDP, sealed(api.UDP, more, r.src, r.dst), r.src, r.dst, true)
		both := put(options(20, 40), 4, 0, 60)
		checkGood(t, api.UDP, sealed(api.UDP, both, r.src, r.dst), r.src, r.dst, true)
		checkGood(t, api.TCP, sealed(api.UDP, both, r.src, r.dst), r.src, r.dst, false)
		checkGood(t, api.TCP, sealed(api.TCP, both, r.src, r.dst), r.src, r.dst, true)
		checkGood(t, api.UDP, sealed(api.TCP, both, r.src, r.dst), r.src, r.dst, false)
	}
}

// P7.2: of V6 the length has four bytes.
func TestGoodLong(t *testing.T) {
	r := routes()[1]
	for _, n := range []int{65516, 65517, 1 << 17, 1<<17 + 3, 1 << 20} {
		b := good(api.TCP, n, r)
		checkGood(t, api.TCP, b, r.src, r.dst, true)
		sum := number(b, 16)
		checkGood(t, api.TCP, putSum(api.TCP, b, sum+len(b)>>16), r.src, r.dst, false)
	}
}

// P7.2: UDP without a checksum is good, whatever it is, and between whatever addresses of one kind; TCP is not.
func TestGoodWithout(t *testing.T) {
	for _, r := range routes() {
		for _, n := range sizes() {
			b := putSum(api.UDP, segment(api.UDP, n), 0)
			checkGood(t, api.UDP, b, r.src, r.dst, true)
			checkGood(t, api.UDP, b, r.to, r.src, true)
			checkGood(t, api.UDP, slices.Concat(b, row(3)), r.src, r.dst, true)
			checkGood(t, api.TCP, putSum(api.TCP, segment(api.TCP, n), 0), r.src, r.dst, false)
		}
		checkGood(t, api.UDP, put(putSum(api.UDP, segment(api.UDP, 4), 0), 7, 1), r.src, r.dst, false)
		checkGood(t, api.UDP, put(putSum(api.UDP, segment(api.UDP, 4), 0), 6, 1), r.src, r.dst, false)
		// Where TCP's checksum stands UDP may have 0 0, and the other way about.
		checkGood(t, api.UDP, put(segment(api.UDP, 20), 16, 0, 0), r.src, r.dst, false)
		checkGood(t, api.TCP, put(segment(api.TCP, 20), 6, 0, 0), r.src, r.dst, false)
	}
	checkReason(t, api.UDP, put(putSum(api.UDP, segment(api.UDP, 4), 0), 5, 13), api.BadHead)
	checkReason(t, api.UDP, putSum(api.UDP, segment(api.UDP, 0), 0)[:7], api.Short)
	checkReason(t, 1, putSum(api.UDP, segment(api.UDP, 4), 0), api.NotL4)
}

// balanced is a segment whose checksum would be 0, by the last two bytes of its data.
func balanced(proto byte, n int, r route) []byte {
	b := put(segment(proto, n), least(proto)+n-2, 0, 0)
	rest := top - whole(proto, putSum(proto, b, 0), r.src, r.dst)
	return putSum(proto, put(b, len(b)-2, byte(rest>>8), byte(rest)), 0)
}

// P7.2: a checksum 0 that is right, and 65535 in its place: both are good of TCP; of UDP 0 is none.
func TestGoodEnds(t *testing.T) {
	for _, r := range routes() {
		for _, proto := range protos() {
			b := balanced(proto, 10, r)
			checkGood(t, proto, b, r.src, r.dst, true)
			checkGood(t, proto, putSum(proto, b, top), r.src, r.dst, true)
			checkGood(t, proto, putSum(proto, b, 1), r.src, r.dst, false)
			checkGood(t, proto, putSum(proto, b, top-1), r.src, r.dst, false)
			turned := put(b, len(b)-3, b[len(b)-3]^1)
			checkGood(t, proto, turned, r.src, r.dst, proto == api.UDP)
			checkGood(t, proto, putSum(proto, turned, top), r.src, r.dst, false)
		}
	}
}

// P7.2: nothing is good between addresses that are not of one kind, not even without a checksum.
func TestGoodMixed(t *testing.T) {
	for _, proto := range protos() {
		for _, r := range routes() {
			for _, m := range mixed() {
				checkGood(t, proto, good(proto, 9, r), m[0], m[1], false)
				checkGood(t, proto, putSum(proto, segment(proto, 9), 0), m[0], m[1], false)
				checkGood(t, proto, sealed(proto, segment(proto, 9), m[0], m[1]), m[0], m[1], false)
			}
		}
	}
}

// changed is the checksum in which words are others: RFC 1624, the third equation, told in another way.
func changed(old int, was, now []byte) int {
	for at := 0; at < len(was); at += 2 {
		old = top - total(now[at:at+2], top-old+top-number(was, at))
	}
	return old
}

// raw is an address's bytes.
func raw(a api.Addr) []byte {
	if a.V6 {
		return a.B[:]
	}
	return a.B[:4]
}

// ported is what Port must answer.
func ported(proto byte, b []byte, to uint16, from, dst api.Addr) []byte {
	port := []byte{byte(to >> 8), byte(to)}
	out := put(b, 2, port...)
	old := number(b, placeOf(proto))
	if proto == api.UDP && old == 0 {
		return out
	}
	sum := changed(changed(old, b[2:4], port), raw(from), raw(dst))
	if proto == api.UDP && sum == 0 {
		sum = top
	}
	return putSum(proto, out, sum)
}

func checkPort(t *testing.T, proto byte, b []byte, to uint16, from, dst api.Addr) []byte {
	t.Helper()
	want := ported(proto, b, to, from, dst)
	var out []byte
	held(t, "Port", b, func() { out = seg.Port(proto, b, to, from, dst) })
	if !bytes.Equal(out, want) {
		t.Fatalf("Port of %d, to %v %d:\n got %d bytes %v\nwant %d bytes %v", proto, raw(dst), to, len(out), front(out), len(want), front(want))
	}
	return out
}

// ports is those at an edge, and some between; 0xabcd is the segments' own.
func ports() []uint16 {
	return []uint16{0, 1, 80, 255, 256, 0x00ab, 0xab00, 0xabcd, 0xcdab, 32768, top - 1, top}
}

// places is where segments over IPv4 may go, or those over V6.
func places(six bool) []api.Addr {
	if six {
		return []api.Addr{{V6: true}, other6, from6, where6, {V6: true, B: [16]byte{15: 1}}, {V6: true, B: other4.B}, {V6: true, B: [16]byte(bytes.Repeat([]byte{255}, 16))}}
	}
	return []api.Addr{{}, other4, from4, where4, addr.V4(0, 0, 0, 1), addr.V4(255, 0, 0, 0), addr.V4(0, 0, 255, 255), addr.V4(255, 255, 255, 255)}
}

// P7.2: the port and the checksum, and nothing else; P7.3: what was good is so behind it, between the new addresses alone.
func TestPort(t *testing.T) {
	for _, proto := range protos() {
		for _, r := range routes() {
			for _, n := range []int{0, 1, 2, 9, 64, 1460, 65515} {
				b := good(proto, n, r)
				for _, to := range ports() {
					for _, dst := range places(r.src.V6) {
						out := checkPort(t, proto, b, to, r.dst, dst)
						want := is(proto)
						want.Dst = to
						checkRead(t, proto, out, want)
						checkGood(t, proto, out, r.src, dst, true)
						checkGood(t, proto, putSum(proto, out, number(out, placeOf(proto))^4), r.src, dst, false)
					}
				}
			}
		}
	}
}

// P7.2: the checksum follows the port alone, and the address alone.
func TestPortOne(t *testing.T) {
	for _, proto := range protos() {
		for _, r := range routes() {
			b := good(proto, 9, r)
			checkGood(t, proto, checkPort(t, proto, b, 80, r.dst, r.dst), r.src, r.dst, true)
			checkGood(t, proto, checkPort(t, proto, b, 0xabcd, r.dst, r.to), r.src, r.to, true)
			checkGood(t, proto, checkPort(t, proto, b, 80, r.dst, r.to), r.src, r.dst, false)
			checkGood(t, proto, checkPort(t, proto, b, 80, r.src, r.to), r.src, r.to, false)
		}
	}
}

// P7.2: a header with options, and bytes behind UDP's length, stay as they are, and are summed.
func TestPortMore(t *testing.T) {
	for _, r := range routes() {
		for size := 20; size <= 60; size += 4 {
			b := sealed(api.TCP, options(size, size%7), r.src, r.dst)
			checkGood(t, api.TCP, checkPort(t, api.TCP, b, 443, r.dst, r.to), r.src, r.to, true)
		}
		for more := range 9 {
			b := sealed(api.UDP, slices.Concat(segment(api.UDP, 6), row(more)), r.src, r.dst)
			checkGood(t, api.UDP, checkPort(t, api.UDP, b, 443, r.dst, r.to), r.src, r.to, true)
		}
	}
}

// P7.2: to where it goes nothing is another, and there and back.
func TestPortSame(t *testing.T) {
	for _, proto := range protos() {
		for _, r := range routes() {
			b := good(proto, 11, r)
			if out := checkPort(t, proto, b, 0xabcd, r.dst, r.dst); !bytes.Equal(out, b) {
				t.Errorf("to where it goes: got %v, want %v", out, b)
			}
			there := checkPort(t, proto, b, 80, r.dst, r.to)
			if back := checkPort(t, proto, there, 0xabcd, r.to, r.dst); !bytes.Equal(back, b) {
				t.Errorf("there and back: got %v, want %v", back, b)
			}
		}
	}
}

// P7.2: the checksum is changed, not made: one that was not good is not mended.
func TestPortNotMended(t *testing.T) {
	for _, proto := range protos() {
		for _, r := range routes() {
			b := good(proto, 9, r)
			sum := number(b, placeOf(proto))
			for _, off := range []int{1, 2, 255, 256, 4096, 32768, top - 1} {
				bad := putSum(proto, b, (sum+off)%top)
				if number(bad, placeOf(proto)) == 0 {
					continue
				}
				checkGood(t, proto, bad, r.src, r.dst, false)
				checkGood(t, proto, checkPort(t, proto, bad, 80, r.dst, r.to), r.src, r.to, false)
			}
		}
	}
}

// P7.2: UDP without a checksum stays without, wherever it goes; TCP's 0 is changed as any other.
func TestPortWithout(t *testing.T) {
	for _, r := range routes() {
		for _, to := range ports() {
			for _, dst := range places(r.src.V6) {
				b := putSum(api.UDP, segment(api.UDP, 6), 0)
				out := checkPort(t, api.UDP, b, to, r.dst, dst)
				if want := put(b, 2, byte(to>>8), byte(to)); !bytes.Equal(out, want) {
					t.Errorf("got %v, want %v", out, want)
				}
				checkGood(t, api.UDP, out, r.src, dst, true)
				tcp := balanced(api.TCP, 6, r)
				checkGood(t, api.TCP, checkPort(t, api.TCP, tcp, to, r.dst, dst), r.src, dst, true)
			}
		}
		if out := checkPort(t, api.TCP, balanced(api.TCP, 6, r), 0xabcc, r.dst, r.dst); number(out, 16) != 1 {
			t.Errorf("TCP's checksum 0, with a port that is one less: %d", number(out, 16))
		}
	}
}

// P7.2: where UDP's checksum would be 0 it is 65535, and where TCP's would be it is 0.
func TestPortSumZero(t *testing.T) {
	for _, r := range routes() {
		for _, proto := range protos() {
			want := map[byte]int{api.TCP: 0, api.UDP: top}[proto]
			end := balanced(proto, 6, route{r.src, r.to, r.dst})
			b := sealed(proto, put(end, 2, 0x11, 0x22), r.src, r.dst)
			out := checkPort(t, proto, b, 0xabcd, r.dst, r.to)
			if got := number(out, placeOf(proto)); got != want {
				t.Errorf("proto %d: the checksum is %d, want %d", proto, got, want)
			}
			checkGood(t, proto, out, r.src, r.to, true)
			again := checkPort(t, proto, putSum(proto, end, top), 0xabcd, r.to, r.to)
			if got := number(again, placeOf(proto)); got != want {
				t.Errorf("proto %d, to where it goes with 65535: the checksum is %d, want %d", proto, got, want)
			}
			away := checkPort(t, proto, out, 0xabcb, r.to, r.to)
			if got := number(away, placeOf(proto)); got != 2 {
				t.Errorf("proto %d, on to a port that is two less: the checksum is %d", proto, got)
			}
		}
	}
}

// P7.2: by 3's Change 65535 stays so where words of all bits become those of none.
func TestPortSumTop(t *testing.T) {
	full, none := addr.V4(255, 255, 255, 255), api.Addr{}
	for _, proto := range protos() {
		b := putSum(proto, put(segment(proto, 4), 2, 255, 255), top)
		if out := checkPort(t, proto, b, 0, full, none); number(out, placeOf(proto)) != top {
			t.Errorf("proto %d: the checksum is %v", proto, out[placeOf(proto):])
		}
		want := map[byte]int{api.TCP: 0, api.UDP: top}[proto]
		for _, c := range []struct {
			to   uint16
			from api.Addr
		}{{top, full}, {0, none}, {top, none}} {
			if out := checkPort(t, proto, b, c.to, c.from, none); number(out, placeOf(proto)) != want {
				t.Errorf("proto %d, port %d: the checksum is %v", proto, c.to, out[placeOf(proto):])
			}
		}
	}
}

// P7.2: none, unless both addresses are of one kind.
func TestPortMixed(t *testing.T) {
	for _, proto := range protos() {
		for _, r := range routes() {
			for _, m := range mixed() {
				checkNoPort(t, proto, good(proto, 9, r), m[0], m[1])
				checkNoPort(t, proto, putSum(proto, segment(proto, 9), 0), m[0], m[1])
			}
		}
	}
}

// P7.2: one of IPv4 is its first four bytes, also where it is not Valid.
func TestNotValid(t *testing.T) {
	odd := from4
	odd.B[4], odd.B[15] = 9, 200
	for _, proto := range protos() {
		b := good(proto, 9, routes()[0])
		checkGood(t, proto, b, odd, where4, true)
		if out := checkPort(t, proto, b, 80, where4, odd); !bytes.Equal(out, checkPort(t, proto, b, 80, where4, from4)) {
			t.Errorf("got %v", out)
		}
	}
}

// P7.2, P7.3: whatever segments there are: good ones stay so, and others stay others.
func TestPortOfNoise(t *testing.T) {
	n := noise(8)
	for i := range 6000 {
		proto, six := protos()[i%2], i/2%2 == 1
		b := n.row(least(proto) + i%61)
		if proto == api.TCP {
			b[12] = byte(min(5+i%4, len(b)/4)<<4) | b[12]&15
		} else {
			b[4], b[5] = 0, byte(8+i%(len(b)-7))
		}
		var r route
		for _, a := range []*api.Addr{&r.src, &r.dst, &r.to} {
			*a, _ = addr.From(n.row(map[bool]int{false: 4, true: 16}[six]))
		}
		if i%3 > 0 {
			b = sealed(proto, b, r.src, r.dst)
		}
		sum := number(b, placeOf(proto))
		fine := whole(proto, b, r.src, r.dst) == top || proto == api.UDP && sum == 0
		checkGood(t, proto, b, r.src, r.dst, fine)
		out := checkPort(t, proto, b, uint16(number(n.row(2), 0)), r.dst, r.to)
		checkGood(t, proto, out, r.src, r.to, fine)
	}
}

// P7.3: what Port answers shares no memory with what was handed in, nor with another answer.
func TestPortNew(t *testing.T) {
	for _, r := range routes() {
		for _, b := range [][]byte{good(api.UDP, 9, r), putSum(api.UDP, segment(api.UDP, 9), 0), segment(api.UDP, 9)[:17:17], slices.Concat(segment(api.UDP, 9), row(9))[:17]} {
			one, two := seg.Port(api.UDP, b, 80, r.dst, r.to), seg.Port(api.UDP, b, 80, r.dst, r.to)
			want := bytes.Clone(two)
			held(t, "a change of what is answered", b, func() {
				for i := range one {
					one[i]++
				}
				clear(one[len(one):cap(one)])
			})
			clear(b[:cap(b)])
			if !bytes.Equal(two, want) || len(two) != 17 {
				t.Errorf("what is answered shares memory: %v, was %v", two, want)
			}
		}
	}
}

// P7.3: nothing is kept: an answer hangs on the bytes alone, whatever was asked ahead of it.
func TestNotKept(t *testing.T) {
	r := routes()[0]
	b := good(api.UDP, 20, r)
	checkRead(t, api.UDP, b, is(api.UDP))
	checkGood(t, api.UDP, b, r.src, r.dst, true)
	checkPort(t, api.UDP, b, 80, r.dst, r.to)
	copy(b, sealed(api.TCP, put(options(20, 8), 0, 7, 7), r.src, r.dst))
	want := is(api.TCP)
	want.Src = 0x0707
	checkRead(t, api.TCP, b, want)
	checkGood(t, api.TCP, b, r.src, r.dst, true)
	checkPort(t, api.TCP, b, 80, r.dst, r.to)
	b[12] = 0x4e
	checkReason(t, api.TCP, b, api.BadHead)
	copy(b, good(api.UDP, 20, r))
	checkRead(t, api.UDP, b, is(api.UDP))
	checkGood(t, api.UDP, b, r.src, r.dst, true)
}
