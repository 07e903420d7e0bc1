package encap_test

import (
	"bytes"
	"slices"
	"testing"

	"bazaar/addr"
	"bazaar/api"
	"bazaar/encap"
	"bazaar/frame"
)

const top = 65535

var (
	from4  = addr.V4(10, 1, 2, 3)
	where4 = addr.V4(192, 168, 200, 255)
	own4   = addr.V4(172, 16, 7, 201)
	dip4   = addr.V4(198, 51, 100, 7)
	from6  = api.Addr{V6: true, B: [16]byte{0x20, 1, 0x0d, 0xb8, 5, 6, 7, 8, 9, 10, 11, 12, 13, 14, 15, 16}}
	where6 = api.Addr{V6: true, B: [16]byte{0xfd, 200, 199, 198, 197, 196, 195, 194, 193, 192, 191, 190, 189, 188, 187, 255}}
	own6   = api.Addr{V6: true, B: [16]byte{0xfe, 0x80, 0, 7, 4: 1, 13: 7, 15: 200}}
	dip6   = api.Addr{V6: true, B: [16]byte{0x20, 1, 0x0d, 0xb8, 6: 99, 9: 4, 14: 0x12, 15: 0x34}}
)

// plan is what a good frame has in it.
type plan struct {
	tag, six bool
	proto    byte
	options4 int // bytes of IPv4's
	options  int // bytes of TCP's
	data     int
	pad      int
}

func (p plan) net() int {
	if p.tag {
		return 18
	}
	return 14
}

func (p plan) seg() int {
	if p.six {
		return p.net() + 40
	}
	return p.net() + 20 + p.options4
}

func (p plan) end() int {
	if p.proto == api.UDP {
		return p.seg() + 8 + p.data
	}
	return p.seg() + 20 + p.options + p.data
}

// frame is the bytes, each of which says something; its segment's checksum is any, for none of it is asked.
func (p plan) frame() []byte {
	n := p.end() - p.seg()
	b := p.ahead(p.six)
	if p.six {
		b = append(b, 0x6f, 0xe1, 0xd2, 0xc3, byte(n>>8), byte(n), p.proto, 63)
		b = slices.Concat(b, from6.B[:], where6.B[:])
	} else {
		size := 20 + p.options4
		head := []byte{0x40 | byte(size/4), 3, byte((size + n) >> 8), byte(size + n), 1, 2, 0x40, 0, 63, p.proto, 0, 0}
		b = append(b, sealed(slices.Concat(head, from4.B[:4], where4.B[:4], row(p.options4)))...)
	}
	b = append(b, 0x12, 0x34, 0xab, 0xcd)
	if p.proto == api.UDP {
		return slices.Concat(b, []byte{byte(n >> 8), byte(n), 0x77, 0x88}, row(p.data), row(p.pad))
	}
	b = append(b, 1, 2, 3, 4, 5, 6, 7, 8, byte((20+p.options)/4)<<4|0x0e, 0x5a, 0x71, 0x82, 0x77, 0x88, 0xb5, 0xc6)
	return slices.Concat(b, row(p.options), row(p.data), row(p.pad))
}

// ahead is the plan's bytes ahead of a packet of that kind.
func (p plan) ahead(six bool) []byte {
	b := []byte{1, 2, 3, 4, 5, 6, 7, 8, 9, 10, 11, 12}
	if p.tag {
		b = append(b, 0x81, 0, 0x20, 5)
	}
	if six {
		return append(b, 0x86, 0xdd)
	}
	return append(b, 8, 0)
}

// total is b's words, gone round; the last one of an odd b has a 0 behind.
func total(b []byte) int {
	sum := 0
	for i, n := range b {
		if i%2 == 0 {
			sum += int(n) * 256
		} else {
			sum += int(n)
		}
	}
	if sum == 0 {
		return 0
	}
	return (sum-1)%top + 1
}

// sealed is an IPv4 header with its checksum.
func sealed(head []byte) []byte {
	head = put(head, 10, 0, 0)
	return putNumber(head, 10, top-total(head))
}

// put is b with part at a place.
func put(b []byte, at int, part ...byte) []byte {
	out := bytes.Clone(b)
	copy(out[at:], part)
	return out
}

// putNumber is b with two bytes of a number at a place.
func putNumber(b []byte, at, n int) []byte {
	return put(b, at, byte(n>>8), byte(n))
}

// number is two bytes of b.
func number(b []byte, at int) int {
	return int(b[at])<<8 + int(b[at+1])
}

// row is n bytes, none of them 0, of which no two neighbours are the same.
func row(n int) []byte {
	b := make([]byte, n)
	for i := range b {
		b[i] = byte(i%250 + 3)
	}
	return b
}

// noise answers rows of bytes, always the same ones.
type noise uint32

func (n *noise) row(size int) []byte {
	b := make([]byte, size)
	for i := range b {
		*n = *n*1664525 + 1013904223
		b[i] = byte(*n >> 24)
	}
	return b
}

// outers is plans of each kind, with nothing that need not be.
func outers() []plan {
	var out []plan
	for i := range 8 {
		out = append(out, plan{tag: i&1 != 0, six: i&2 != 0, proto: []byte{api.TCP, api.UDP}[i>>2], data: 7})
	}
	return out
}

// plans is frames of all kinds, with options and without, with no data and some, with padding and without.
func plans() []plan {
	var out []plan
	for _, p := range outers() {
		for _, p.data = range []int{0, 1, 2, 26, 247, 248, 1400} {
			for _, p.pad = range []int{0, 1, 6, 46} {
				out = append(out, p)
			}
		}
		for _, p.options4 = range []int{0, 4, 40} {
			for _, p.options = range []int{0, 4, 40} {
				if (p.six && p.options4 > 0) || (p.proto == api.UDP && p.options > 0) {
					continue
				}
				p.data, p.pad = 9, 3
				out = append(out, p)
			}
		}
	}
	return out
}

// held calls do, and holds all of b's memory against what it was.
func held(t *testing.T, what string, b []byte, do func()) {
	t.Helper()
	was := bytes.Clone(b[:cap(b)])
	do()
	if !bytes.Equal(b[:cap(b)], was) {
		t.Errorf("%s has changed what was handed in, or its spare room", what)
	}
}

func front(b []byte) []byte {
	return b[:min(len(b), 84)]
}

// outer is the header that must be made, told by numbers alone.
func outer(src, dst api.Addr, proto byte, n int) []byte {
	if dst.V6 {
		return slices.Concat([]byte{0x60, 0, 0, 0, byte(n >> 8), byte(n), proto, 64}, src.B[:], dst.B[:])
	}
	n += 20
	return sealed(slices.Concat([]byte{0x45, 0, byte(n >> 8), byte(n), 0, 0, 0x40, 0, 64, proto, 0, 0}, src.B[:4], dst.B[:4]))
}

// within is what an outer header calls the plan's packet.
func (p plan) within() byte {
	if p.six {
		return 41
	}
	return 4
}

// gone is what In must answer of a frame whose places are the plan's.
func gone(p plan, b []byte, src, dst api.Addr) []byte {
	packet := b[p.net():p.end()]
	return slices.Concat(p.ahead(dst.V6), outer(src, dst, p.within(), len(packet)), packet)
}

// outerEnd is where the outer header of such a frame ends.
func (p plan) outerEnd(six bool) int {
	if six {
		return p.net() + 40
	}
	return p.net() + 20
}

// pair is an own address, and one that a frame goes to.
type pair struct{ own, d api.Addr }

// pairs is some of IPv4 and some of V6, with bytes of any kind.
func pairs() []pair {
	full := api.Addr{V6: true, B: [16]byte(bytes.Repeat([]byte{255}, 16))}
	return []pair{
		{own4, dip4}, {own4, own4}, {from4, where4}, {addr.V4(0, 0, 0, 0), addr.V4(0, 0, 0, 0)}, {addr.V4(255, 255, 255, 255), addr.V4(255, 255, 255, 255)}, {addr.V4(1, 0, 0, 0), addr.V4(0, 0, 0, 1)},
		{own6, dip6}, {own6, own6}, {from6, where6}, {api.Addr{V6: true}, api.Addr{V6: true}}, {full, full}, {api.Addr{V6: true, B: own4.B}, api.Addr{V6: true, B: dip4.B}},
	}
}

// in is In with the other one of both own addresses as handed in.
func in(b []byte, x pair, other api.Addr) ([]byte, int) {
	if x.d.V6 {
		return encap.In(b, other, x.own, x.d)
	}
	return encap.In(b, x.own, other, x.d)
}

// checkIn: just what must come of it, and out of that b without its padding, and d.
func checkIn(t *testing.T, p plan, b []byte, x pair) []byte {
	t.Helper()
	var out []byte
	held(t, "In", b, func() {
		var reason int
		if out, reason = in(b, x, api.Addr{}); reason != 0 {
			t.Fatalf("In of %v .., %v: reason %d", front(b), x, reason)
		}
	})
	if want := gone(p, b, x.own, x.d); !bytes.Equal(out, want) {
		t.Fatalf("In of %v .., %v:\n got %d bytes %v\nwant %d bytes %v", front(b), x, len(out), front(out), len(want), front(want))
	}
	checkOut(t, out, b[:p.end()], x.d)
	return out
}

// checkWhy: that reason, and no frame.
func checkWhy(t *testing.T, b []byte, own, six, d api.Addr, want int) {
	t.Helper()
	held(t, "In", b, func() {
		if out, reason := encap.In(b, own, six, d); reason != want || len(out) != 0 {
			t.Errorf("In of %v .., %v, %v, %v: %v, %d; want none, %d", front(b), own, six, d, front(out), reason, want)
		}
	})
}

// checkOut: just that frame was within, and went there.
func checkOut(t *testing.T, b, want []byte, to api.Addr) {
	t.Helper()
	held(t, "Out", b, func() {
		if got, dst, ok := encap.Out(b); !ok || dst != to || !bytes.Equal(got, want) {
			t.Fatalf("Out of %v ..: %v, %v\n got %d bytes %v\nwant %d bytes %v, to %v", front(b), dst, ok, len(got), front(got), len(want), front(want), to)
		}
	})
}

// checkNone: false, and nothing beside it.
func checkNone(t *testing.T, what string, b []byte) {
	t.Helper()
	held(t, "Out", b, func() {
		if got, dst, ok := encap.Out(b); ok || len(got) != 0 || dst != (api.Addr{}) {
			t.Errorf("%s: Out of %v ..: %v, %v, %v; want none, false", what, front(b), front(got), dst, ok)
		}
	})
}

// P10.1, P10.2: all four, each byte written out.
func TestLiteral(t *testing.T) {
	ends := []byte{1, 2, 3, 4, 5, 6, 7, 8, 9, 10, 11, 12}
	tag := []byte{0x81, 0, 0x20, 5}
	four := []byte{0x45, 0, 0, 30, 0, 0, 0x40, 0, 64, 17, 0x26, 0xcd, 10, 0, 0, 1, 10, 0, 0, 2, 0, 7, 0, 80, 0, 10, 0, 0, 'h', 'i'}
	six := slices.Concat([]byte{0x60, 0, 0, 0, 0, 10, 17, 9, 0x20, 1}, make([]byte, 13), []byte{1, 0x20, 1}, make([]byte, 13), []byte{2, 0, 53, 0, 99, 0, 10, 0, 0, 'h', 'i'})
	here, there := addr.V4(10, 0, 0, 7), addr.V4(10, 0, 0, 9)
	here6, there6 := api.Addr{V6: true, B: [16]byte{0x20, 1, 15: 8}}, api.Addr{V6: true, B: [16]byte{0x20, 1, 15: 9}}
	both := slices.Concat([]byte{0x20, 1}, make([]byte, 13), []byte{8, 0x20, 1}, make([]byte, 13), []byte{9})
	for _, c := range []struct {
		b, want []byte
		d       api.Addr
	}{
		{slices.Concat(ends, []byte{8, 0}, four), slices.Concat(ends, []byte{8, 0, 0x45, 0, 0, 50, 0, 0, 0x40, 0, 64, 4, 0x26, 0xb9, 10, 0, 0, 7, 10, 0, 0, 9}, four), there},
		{slices.Concat(ends, tag, []byte{0x86, 0xdd}, six), slices.Concat(ends, tag, []byte{8, 0, 0x45, 0, 0, 70, 0, 0, 0x40, 0, 64, 41, 0x26, 0x80, 10, 0, 0, 7, 10, 0, 0, 9}, six), there},
		{slices.Concat(ends, tag, []byte{8, 0}, four), slices.Concat(ends, tag, []byte{0x86, 0xdd, 0x60, 0, 0, 0, 0, 30, 4, 64}, both, four), there6},
		{slices.Concat(ends, []byte{0x86, 0xdd}, six), slices.Concat(ends, []byte{0x86, 0xdd, 0x60, 0, 0, 0, 0, 50, 41, 64}, both, six), there6},
	} {
		out, reason := encap.In(slices.Concat(c.b, []byte{7, 8, 9}), here, here6, c.d)
		if reason != 0 || !bytes.Equal(out, c.want) {
			t.Errorf("to %v: %d\n got %v\nwant %v", c.d, reason, out, c.want)
		}
		checkOut(t, c.want, c.b, c.d)
	}
}

// P10.1, P10.3: frames of all kinds to servers of all kinds, in memory of their own size and in greater one.
func TestIn(t *testing.T) {
	for _, p := range plans() {
		b := p.frame()
		for _, x := range pairs() {
			checkIn(t, p, b, x)
			checkIn(t, p, b[:len(b):len(b)], x)
			checkIn(t, p, append(make([]byte, 0, 2*len(b)), b...), x)
		}
	}
}

// P10.1: all that is ahead of the packet stays but the kind, and all of the packet, whatever it is, its checksum that is not good, too.
func TestElse(t *testing.T) {
	n := noise(9)
	for _, p := range outers() {
		p.pad = 5
		for range 50 {
			b := p.frame()
			copy(b, n.row(12))
			copy(b[p.seg():], n.row(4))
			copy(b[p.end()-p.data:], n.row(p.data+p.pad))
			if p.tag {
				copy(b[14:], n.row(2))
			}
			for _, x := range pairs() {
				out, reason := in(b, x, api.Addr{})
				want := slices.Concat(b[:p.net()-2], p.ahead(x.d.V6)[p.net()-2:], outer(x.own, x.d, p.within(), p.end()-p.net()), b[p.net():p.end()])
				if reason != 0 || !bytes.Equal(out, want) {
					t.Fatalf("In of %v, %v: %d\n got %v\nwant %v", b, x, reason, out, want)
				}
				checkOut(t, out, b[:p.end()], x.d)
			}
		}
	}
}

// P10.1: no padding in what is answered, however much there was, and none of it counts.
func TestPadding(t *testing.T) {
	for _, p := range outers() {
		b := p.frame()
		for _, pad := range [][]byte{{0}, {255}, row(2), make([]byte, 46), bytes.Repeat([]byte{255}, 1500), b, row(top - len(b))} {
			for _, x := range pairs() {
				checkIn(t, p, slices.Concat(b, pad), x)
			}
		}
	}
}

// P10.1: NoDip of an address that has a byte behind the first four of IPv4, whichever, and whichever of both it is; of V6 all sixteen may be any.
func TestNotValid(t *testing.T) {
	for _, p := range outers() {
		b := p.frame()
		for at := range 16 {
			for bit := range 8 {
				for _, x := range []pair{{own4, dip4}, {own6, dip6}} {
					turned := []pair{x, x, x}
					turned[0].own.B[at] ^= 1 << bit
					turned[1].d.B[at] ^= 1 << bit
					turned[2].own.B[at] ^= 1 << bit
					turned[2].d.B[at] ^= 1 << bit
					for _, y := range turned {
						if x.d.V6 || at < 4 {
							checkIn(t, p, b, y)
						} else {
							checkWhy(t, b, y.own, own6, y.d, api.NoDip)
						}
					}
				}
			}
		}
	}
}

// P10.1: NoDip, if the one of d's kind is not of it, whatever its bytes and whatever the other one is; the other one is not looked at.
func TestOtherKind(t *testing.T) {
	odd := api.Addr{B: [16]byte{1, 2, 3, 4, 15: 1}}
	none := api.Addr{V6: true, B: own4.B}
	for _, p := range outers() {
		b := p.frame()
		for _, other := range []api.Addr{{}, {V6: true}, own4, own6, odd, none} {
			for _, x := range []pair{{own4, dip4}, {own6, dip6}} {
				if out, reason := in(b, x, other); reason != 0 || !bytes.Equal(out, gone(p, b, x.own, x.d)) {
					t.Errorf("%v beside %v: %v, %d", other, x, front(out), reason)
				}
			}
			for _, own := range []api.Addr{own6, none, {V6: true}, odd} {
				checkWhy(t, b, own, other, dip4, api.NoDip)
			}
			for _, six := range []api.Addr{own4, {}, odd, {B: own6.B}} {
				checkWhy(t, b, other, six, dip6, api.NoDip)
			}
		}
		checkWhy(t, b, own4, own6, odd, api.NoDip)
		checkWhy(t, b, api.Addr{}, api.Addr{}, api.Addr{B: dip6.B}, api.NoDip)
	}
}

// P10.1: the whole may be just as long as a frame may be; one byte longer is TooBig. Padding does not count.
func TestTooBig(t *testing.T) {
	for _, p := range outers() {
		for _, x := range []pair{{own4, dip4}, {own6, dip6}} {
			p.data, p.pad = 7, 0
			p.data += top - (p.end() + p.outerEnd(x.d.V6) - p.net())
			for _, p.pad = range []int{0, 5} {
				if out := checkIn(t, p, p.frame(), x); len(out) != top {
					t.Fatalf("%d bytes, want %d", len(out), top)
				}
			}
			p.pad = 0
			for p.data++; p.end() <= top; p.data++ {
				checkWhy(t, p.frame(), own4, own6, x.d, api.TooBig)
			}
			p.data--
			checkWhy(t, append(p.frame(), 0), own4, own6, x.d, api.Short)
		}
	}
}

// fault is something that is wrong, and the reason that Read tells of it.
type fault struct {
	name   string
	reason int
	b      []byte
}

// faults is frames of the plan's kind of which Read tells each of its reasons.
func faults(p plan) []fault {
	b := p.frame()
	at := func(n int, part ...byte) []byte {
		out := put(b, p.net()+n, part...)
		if !p.six {
			copy(out[p.net():], sealed(out[p.net():p.seg()]))
		}
		return out
	}
	lengthAt := map[bool]int{false: 2, true: 4}[p.six]
	short := number(b, p.net()+lengthAt) + p.seg() - p.end() + 7
	all := []fault{
		{"no bytes", api.Short, nil},
		{"ahead of the packet", api.Short, b[:p.net()-1]},
		{"no packet", api.Short, b[:p.net()]},
		{"few of the header", api.Short, b[:p.seg()-1]},
		{"cut", api.Short, b[:p.end()-1]},
		{"long", api.Short, slices.Concat(b, row(top))},
		{"other", api.NotIP, put(b, p.net()-2, 8, 6)},
		{"version", api.BadHead, at(0, 0x75)},
		{"few of the segment", api.Short, at(lengthAt, byte(short>>8), byte(short))},
		{"size", api.BadHead, put(b, p.seg()+map[byte]int{api.TCP: 12, api.UDP: 4}[p.proto], 0x40, 0)},
	}
	if p.six {
		return append(all, fault{"fragment", api.Fragment, at(6, 44)}, fault{"protocol", api.NotL4, at(6, 58)})
	}
	return append(all,
		fault{"head", api.BadHead, put(b, p.net(), 0x44)},
		fault{"sum", api.BadSum, put(b, p.net()+10, b[p.net()+10]^1)},
		fault{"fragment", api.Fragment, at(6, 0x20)},
		fault{"protocol", api.NotL4, at(9, 1)})
}

// P10.1: Read's reason of a frame that is not read, ahead of all others, with whatever addresses.
func TestReasons(t *testing.T) {
	odd := api.Addr{B: [16]byte{15: 1}}
	for _, p := range outers() {
		seen := map[int]bool{}
		for _, f := range faults(p) {
			if _, reason := frame.Read(f.b); reason != f.reason {
				t.Fatalf("%s: reason %d, want %d", f.name, reason, f.reason)
			}
			seen[f.reason] = true
			for _, d := range []api.Addr{dip4, dip6, odd, {}, {V6: true}} {
				checkWhy(t, f.b, own4, own6, d, f.reason)
				checkWhy(t, f.b, own6, own4, d, f.reason)
				checkWhy(t, f.b, odd, odd, d, f.reason)
			}
		}
		if want := map[bool]int{false: 6, true: 5}[p.six]; len(seen) != want {
			t.Errorf("%d reasons, want %d", len(seen), want)
		}
	}
	checkWhy(t, []byte{}, own4, own6, dip4, api.Short)
}

// P10.1: NoDip is ahead of TooBig.
func TestOrder(t *testing.T) {
	odd := api.Addr{B: [16]byte{15: 1}}
	for _, p := range outers() {
		p.data += top - p.end()
		b := p.frame()
		checkWhy(t, b, own4, own6, odd, api.NoDip)
		checkWhy(t, b, odd, own6, dip4, api.NoDip)
		checkWhy(t, b, own6, own6, dip4, api.NoDip)
		checkWhy(t, b, own4, own4, dip6, api.NoDip)
		checkWhy(t, b, own4, own6, dip4, api.TooBig)
		checkWhy(t, b, own4, own6, dip6, api.TooBig)
	}
}

// P10.1: of each frame that ends too early there is none, whatever its spare room holds.
func TestShort(t *testing.T) {
	for _, p := range outers() {
		b := p.frame()
		for n := range p.end() {
			checkWhy(t, b[:n], own4, own6, dip4, api.Short)
			checkWhy(t, bytes.Clone(b[:n:n]), own4, own6, dip6, api.Short)
		}
	}
}

// made is a frame of a packet, of any bytes, within another one.
func made(p plan, x pair, proto byte, packet []byte) []byte {
	return slices.Concat(p.ahead(x.d.V6), outer(x.own, x.d, proto, len(packet)), packet)
}

// P10.2: what is within is asked for its version alone: one byte is enough, and none is not.
func TestWithin(t *testing.T) {
	n := noise(4)
	for _, p := range outers() {
		for _, x := range pairs() {
			for _, size := range []int{0, 1, 2, 3, 19, 20, 21, 39, 40, 41, 60, 300} {
				packet := n.row(size)
				if size == 0 {
					checkNone(t, "none within", made(p, x, 4, packet))
					checkNone(t, "none within", made(p, x, 41, packet))
					continue
				}
				packet[0] = 0x40 | packet[0]&15
				checkOut(t, made(p, x, 4, packet), slices.Concat(p.ahead(false), packet), x.d)
				packet[0] = 0x60 | packet[0]&15
				checkOut(t, made(p, x, 41, packet), slices.Concat(p.ahead(true), packet), x.d)
			}
		}
	}
}

// P10.2: false of a protocol that is neither, and of a version that is not the protocol's.
func TestProto(t *testing.T) {
	for _, p := range outers()[:4] {
		for _, x := range []pair{{own4, dip4}, {own6, dip6}} {
			for first := range 256 {
				packet := put(row(30), 0, byte(first))
				for proto := range 256 {
					four, six := proto == 4 && first>>4 == 4, proto == 41 && first>>4 == 6
					b := made(p, x, byte(proto), packet)
					if four || six {
						checkOut(t, b, slices.Concat(p.ahead(six), packet), x.d)
					} else {
						checkNone(t, "protocol or version", b)
					}
				}
			}
		}
	}
}

// P10.2: false of an outer header with any one of its bytes turned; but of IPv6 an address may be any.
func TestTurned(t *testing.T) {
	for _, p := range outers()[:4] {
		for _, x := range []pair{{own4, dip4}, {own6, dip6}} {
			b := checkIn(t, p, p.frame(), x)
			for at := range p.outerEnd(x.d.V6) - p.net() {
				for by := 1; by < 256; by++ {
					turned, to := put(b, p.net()+at, b[p.net()+at]^byte(by)), x.d
					if at >= 24 {
						to.B[at-24] ^= byte(by)
					}
					if x.d.V6 && at >= 8 {
						checkOut(t, turned, p.frame(), to)
					} else {
						checkNone(t, "turned", turned)
					}
				}
			}
		}
	}
}

// P10.2: of IPv4 the checksum alone is not enough: with that of the turned byte an address may be any, and nothing else.
func TestTurnedAndSealed(t *testing.T) {
	for _, p := range outers()[:4] {
		b := checkIn(t, p, p.frame(), pair{own4, dip4})
		for at := range 20 {
			for by := 1; by < 256; by++ {
				turned := put(b, p.net()+at, b[p.net()+at]^byte(by))
				copy(turned[p.net():], sealed(turned[p.net():p.net()+20]))
				to := dip4
				if at >= 16 {
					to.B[at-16] ^= byte(by)
				}
				if at < 10 {
					checkNone(t, "turned and sealed", turned)
				} else {
					checkOut(t, turned, p.frame(), to)
				}
			}
		}
	}
}

// P10.2: of IPv4 where the checksum is 0, 65535 is as good, but not what Make makes.
func TestSumEnds(t *testing.T) {
	for _, p := range outers()[:4] {
		x := pair{own4, dip4}
		x.own.B[2], x.own.B[3] = 0, 0
		sum := number(outer(x.own, x.d, p.within(), p.end()-p.net()), 10)
		x.own.B[2], x.own.B[3] = byte(sum>>8), byte(sum)
		b := checkIn(t, p, p.frame(), x)
		if at := p.net() + 10; number(b, at) != 0 {
			t.Fatalf("the checksum is %v", b[at:at+2])
		}
		checkNone(t, "65535", putNumber(b, p.net()+10, top))
	}
}

// P10.2: false of a header with options, of whatever bytes, also where all of its numbers are right.
func TestOptions(t *testing.T) {
	for _, p := range outers()[:4] {
		b := p.frame()
		packet := b[p.net():p.end()]
		for words := 1; words <= 10; words++ {
			for _, options := range [][]byte{make([]byte, 4*words), row(4 * words), bytes.Repeat([]byte{1}, 4*words), bytes.Repeat([]byte{0x45}, 4*words), bytes.Repeat([]byte{0x65}, 4*words)} {
				head := outer(own4, dip4, p.within(), len(packet)+4*words)
				head[0] += byte(words)
				head = sealed(slices.Concat(head, options))
				checkNone(t, "options", slices.Concat(p.ahead(false), head, packet))
			}
		}
		for next := range 256 {
			if next != 4 && next != 41 {
				head := outer(own6, dip6, byte(next), len(packet)+8)
				checkNone(t, "a header between", slices.Concat(p.ahead(true), head, []byte{p.within(), 0, 0, 0, 0, 0, 0, 0}, packet))
			}
		}
	}
}

// P10.2: false, if more bytes are behind it than the outer header says, or fewer; with the number that is right they are within.
func TestLength(t *testing.T) {
	for _, p := range plans() {
		for _, x := range []pair{{own4, dip4}, {own6, dip6}} {
			b := checkIn(t, p, p.frame(), x)
			for _, more := range [][]byte{{0}, {255}, row(2), make([]byte, 46), b} {
				checkNone(t, "more", slices.Concat(b, more))
				packet := slices.Concat(b[p.outerEnd(x.d.V6):], more)
				checkOut(t, made(p, x, p.within(), packet), slices.Concat(p.ahead(p.six), packet), x.d)
			}
			for less := 1; less <= 9; less++ {
				checkNone(t, "less", b[:len(b)-less])
				packet := b[p.outerEnd(x.d.V6) : len(b)-less]
				checkOut(t, made(p, x, p.within(), packet), slices.Concat(p.ahead(p.six), packet), x.d)
			}
		}
	}
}

// P10.2: false of no bytes, of each part of such a frame, and of one of which Net tells a reason.
func TestNet(t *testing.T) {
	checkNone(t, "no bytes", nil)
	checkNone(t, "no bytes", []byte{})
	for _, p := range outers() {
		for _, x := range []pair{{own4, dip4}, {own6, dip6}} {
			b := checkIn(t, p, p.frame(), x)
			for n := range b {
				checkNone(t, "a part", b[:n])
				checkNone(t, "a part", bytes.Clone(b[:n:n]))
			}
			for kind := range 1 << 16 {
				if kind != number(b, p.net()-2) {
					checkNone(t, "another kind", putNumber(b, p.net()-2, kind))
				}
			}
			checkNone(t, "two tags", slices.Concat(b[:12], []byte{0x81, 0, 1, 2, 0x81, 0, 3, 4}, b[p.net()-2:]))
		}
	}
}

// P10.2: false of frames in which no other one is.
func TestNotWithin(t *testing.T) {
	for _, p := range plans() {
		checkNone(t, "none within", p.frame())
	}
	for _, p := range outers() {
		for _, f := range faults(p) {
			checkNone(t, f.name, f.b)
		}
	}
}

// P10.1, P10.2: one that is within already is not put in another one, for it is NotL4; but out of one comes another one.
func TestTwice(t *testing.T) {
	for _, p := range outers() {
		for _, x := range pairs() {
			b := checkIn(t, p, p.frame(), x)
			checkWhy(t, b, own4, own6, dip4, api.NotL4)
			checkWhy(t, b, own4, own6, dip6, api.NotL4)
			for _, y := range pairs() {
				proto := plan{six: x.d.V6}.within()
				checkOut(t, made(p, y, proto, b[p.net():]), b, y.d)
			}
		}
	}
}

// outOf is Out told in another way: by the numbers of the one header that may be.
func outOf(b []byte) (in []byte, dst api.Addr, ok bool) {
	for _, p := range []plan{{}, {tag: true}, {six: true}, {tag: true, six: true}} {
		end := p.outerEnd(p.six)
		if len(b) <= end || !bytes.Equal(b[p.net()-2:p.net()], p.ahead(p.six)[p.net()-2:]) || p.tag != (number(b, 12) == 0x8100) {
			continue
		}
		src, packet := api.Addr{V6: p.six}, b[end:]
		dst.V6 = p.six
		n := map[bool]int{false: 4, true: 16}[p.six]
		copy(src.B[:], b[end-2*n:end-n])
		copy(dst.B[:], b[end-n:end])
		for proto, version := range map[byte]byte{4: 4, 41: 6} {
			if packet[0]>>4 == version && bytes.Equal(b[p.net():end], outer(src, dst, proto, len(packet))) {
				return slices.Concat(b[:p.net()-2], p.ahead(version == 6)[p.net()-2:], packet), dst, true
			}
		}
	}
	return nil, api.Addr{}, false
}

// P10.1, P10.2, P10.3: whatever the bytes.
func TestNoise(t *testing.T) {
	n := noise(8)
	list, ways := outers(), pairs()
	check := func(b []byte) bool {
		want, to, ok := outOf(b)
		if ok {
			checkOut(t, b, want, to)
		} else {
			checkNone(t, "noise", b)
		}
		return ok
	}
	good := 0
	for i := range 20000 {
		b := n.row(i % 120)
		check(b)
		if _, reason := frame.Read(b); reason != 0 {
			checkWhy(t, b, own4, own6, dip4, reason)
		}
		p, x := list[i%len(list)], ways[i/8%len(ways)]
		p.pad = i % 5
		b = checkIn(t, p, p.frame(), x)
		turn := n.row(9)
		for j := range 1 + i%3 {
			at := int(turn[j]) % len(b)
			b[at] = turn[j+3]
		}
		if i%2 == 0 && !x.d.V6 {
			copy(b[p.net():], sealed(b[p.net():p.net()+20]))
		}
		if check(b) {
			good++
		}
	}
	if good < 2000 || good > 18000 {
		t.Errorf("%d of the turned ones are good: too few or too many to tell", good)
	}
}

// P10.3: what is answered shares no memory with what was handed in, nor with another answer.
func TestNew(t *testing.T) {
	for _, p := range outers() {
		p.pad = 3
		for _, x := range pairs() {
			b := append(p.frame(), row(9)...)[:p.end()+3]
			checkNew(t, b, func(b []byte) []byte {
				out, _ := in(b, x, api.Addr{})
				return out
			})
			b = append(gone(p, p.frame(), x.own, x.d), row(9)...)
			checkNew(t, b[:len(b)-9], func(b []byte) []byte {
				out, _, _ := encap.Out(b)
				return out
			})
		}
	}
}

// checkNew: two answers of one b, and b itself, have nothing in common.
func checkNew(t *testing.T, b []byte, answer func([]byte) []byte) {
	t.Helper()
	one, two := answer(b), answer(b)
	want := bytes.Clone(two)
	held(t, "a change of what is answered", b, func() {
		for i := range one {
			one[i]++
		}
		clear(one[len(one):cap(one)])
	})
	clear(b[:cap(b)])
	if len(two) == 0 || !bytes.Equal(two, want) {
		t.Errorf("what is answered shares memory: %v, was %v", front(two), front(want))
	}
}

// P10.3: nothing is kept: an answer hangs on the arguments alone, whatever was asked ahead of it.
func TestNotKept(t *testing.T) {
	list := outers()
	for i, p := range list {
		for _, x := range pairs() {
			b := p.frame()
			want := checkIn(t, p, b, x)
			q := list[len(list)-1-i]
			b = append(b[:0], q.frame()...)
			other := checkIn(t, q, b, pair{own6, dip6})
			clear(b)
			clear(other)
			checkNone(t, "noughts", other)
			checkWhy(t, b, own4, own6, dip4, api.NotIP)
			if out := checkIn(t, p, p.frame(), x); !bytes.Equal(out, want) {
				t.Errorf("got %v, want %v", front(out), front(want))
			}
		}
	}
}
