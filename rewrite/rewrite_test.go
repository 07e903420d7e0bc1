package rewrite_test

import (
	"bytes"
	"slices"
	"testing"

	"bazaar/addr"
	"bazaar/api"
	"bazaar/frame"
	"bazaar/rewrite"
)

const top = 65535

var (
	from4  = addr.V4(10, 1, 2, 3)
	where4 = addr.V4(192, 168, 200, 255)
	other4 = addr.V4(172, 16, 7, 201)
	from6  = api.Addr{V6: true, B: [16]byte{0x20, 1, 0x0d, 0xb8, 5, 6, 7, 8, 9, 10, 11, 12, 13, 14, 15, 16}}
	where6 = api.Addr{V6: true, B: [16]byte{0xfd, 200, 199, 198, 197, 196, 195, 194, 193, 192, 191, 190, 189, 188, 187, 255}}
	other6 = api.Addr{V6: true, B: [16]byte{0xfe, 0x80, 0, 7, 4: 1, 13: 7, 15: 200}}
)

// plan is what a good frame has in it.
type plan struct {
	tag, six bool
	proto    byte
	options4 int // bytes of IPv4's
	options  int // bytes of TCP's
	data     int
	pad      int
}

func (p plan) net() int {
	if p.tag {
		return 18
	}
	return 14
}

func (p plan) seg() int {
	if p.six {
		return p.net() + 40
	}
	return p.net() + 20 + p.options4
}

func (p plan) end() int {
	if p.proto == api.UDP {
		return p.seg() + 8 + p.data
	}
	return p.seg() + 20 + p.options + p.data
}

// sumAt is the place of the segment's checksum.
func (p plan) sumAt() int {
	return p.seg() + map[byte]int{api.TCP: 16, api.UDP: 6}[p.proto]
}

// view is what is to be read.
func (p plan) view() api.View {
	v := api.View{V6: p.six, Net: p.net(), Seg: p.seg(), End: p.end(), Key: api.Key{Proto: p.proto, Src: from4, Dst: where4, SrcPort: 0x1234, DstPort: 0xabcd}}
	if p.six {
		v.Key.Src, v.Key.Dst = from6, where6
	}
	if p.proto == api.TCP {
		v.Flags = 0x5a
	}
	return v
}

// frame is the bytes, each of which says something.
func (p plan) frame() []byte {
	b := []byte{1, 2, 3, 4, 5, 6, 7, 8, 9, 10, 11, 12}
	if p.tag {
		b = append(b, 0x81, 0, 0x20, 5)
	}
	n := p.end() - p.seg()
	if p.six {
		b = append(b, 0x86, 0xdd, 0x6f, 0xe1, 0xd2, 0xc3, byte(n>>8), byte(n), p.proto, 63)
		b = slices.Concat(b, from6.B[:], where6.B[:])
	} else {
		size := 20 + p.options4
		b = append(b, 8, 0, 0x40|byte(size/4), 3, byte((size+n)>>8), byte(size+n), 1, 2, 0x40, 0, 63, p.proto, 0, 0)
		b = slices.Concat(b, from4.B[:4], where4.B[:4], row(p.options4))
	}
	b = append(b, 0x12, 0x34, 0xab, 0xcd)
	if p.proto == api.UDP {
		b = append(b, byte(n>>8), byte(n), 0, 0)
	} else {
		b = append(b, 1, 2, 3, 4, 5, 6, 7, 8, byte((20+p.options)/4)<<4|0x0e, 0x5a, 0x71, 0x82, 0, 0, 0xb5, 0xc6)
	}
	b = slices.Concat(b, row(p.options*int(1-p.proto/api.UDP)), row(p.data), row(p.pad))
	return p.sealed(b)
}

// sealed is b with its checksums, whose places are those of the plan.
func (p plan) sealed(b []byte) []byte {
	b = p.sealedHead(b)
	v := p.view()
	b = put(b, p.sumAt(), 0, 0)
	sum := top - whole(b[v.Seg:v.End], v.Key.Proto, b[p.addrs():p.addrsEnd()])
	if sum == 0 && p.proto == api.UDP {
		sum = top
	}
	return put(b, p.sumAt(), byte(sum>>8), byte(sum))
}

// sealedHead is b with the IPv4 header's checksum.
func (p plan) sealedHead(b []byte) []byte {
	if p.six {
		return b
	}
	at := p.net() + 10
	b = put(b, at, 0, 0)
	sum := top - total(b[p.net():p.net()+int(b[p.net()]&15)*4], 0)
	return put(b, at, byte(sum>>8), byte(sum))
}

// addrs is where both addresses stand.
func (p plan) addrs() int {
	if p.six {
		return p.net() + 8
	}
	return p.net() + 12
}

func (p plan) addrsEnd() int {
	if p.six {
		return p.net() + 40
	}
	return p.net() + 20
}

// total is b's words, added to start, gone round; the last one of an odd b has a 0 behind.
func total(b []byte, start int) int {
	for i, n := range b {
		if i%2 == 0 {
			start += int(n) * 256
		} else {
			start += int(n)
		}
	}
	if start == 0 {
		return 0
	}
	return (start-1)%top + 1
}

// whole is the sum over a segment and its pseudo header, of which both addresses are handed in.
func whole(b []byte, proto byte, both []byte) int {
	return total(b, int(proto)+len(b)+total(both, 0))
}

// put is b with part at a place.
func put(b []byte, at int, part ...byte) []byte {
	out := bytes.Clone(b)
	copy(out[at:], part)
	return out
}

// number is two bytes of b.
func number(b []byte, at int) int {
	return int(b[at])<<8 + int(b[at+1])
}

// row is n bytes, none of them 0, of which no two neighbours are the same.
func row(n int) []byte {
	b := make([]byte, n)
	for i := range b {
		b[i] = byte(i%250 + 3)
	}
	return b
}

// noise answers rows of bytes, always the same ones.
type noise uint32

func (n *noise) row(size int) []byte {
	b := make([]byte, size)
	for i := range b {
		*n = *n*1664525 + 1013904223
		b[i] = byte(*n >> 24)
	}
	return b
}

// outers is plans of each kind, with nothing that need not be.
func outers() []plan {
	var out []plan
	for i := range 8 {
		out = append(out, plan{tag: i&1 != 0, six: i&2 != 0, proto: []byte{api.TCP, api.UDP}[i>>2], data: 7})
	}
	return out
}

// plans is frames of all kinds, with options and without, with no data and some, with padding and without.
func plans() []plan {
	var out []plan
	for _, p := range outers() {
		for _, p.data = range []int{0, 1, 2, 26, 247, 248, 1400} {
			for _, p.pad = range []int{0, 1, 6, 46} {
				out = append(out, p)
			}
		}
		for _, p.options4 = range []int{0, 4, 40} {
			for _, p.options = range []int{0, 4, 40} {
				if (p.six && p.options4 > 0) || (p.proto == api.UDP && p.options > 0) {
					continue
				}
				p.data, p.pad = 9, 3
				out = append(out, p)
			}
		}
	}
	return out
}

// held calls do, and holds all of b's memory against what it was.
func held(t *testing.T, what string, b []byte, do func()) {
	t.Helper()
	was := bytes.Clone(b[:cap(b)])
	do()
	if !bytes.Equal(b[:cap(b)], was) {
		t.Errorf("%s has changed what was handed in, or its spare room", what)
	}
}

func front(b []byte) []byte {
	return b[:min(len(b), 84)]
}

// resized is b whose packet says that it has n bytes more.
func (p plan) resized(b []byte, n int) []byte {
	at := p.net() + 2
	if p.six {
		at = p.net() + 4
	}
	n += number(b, at)
	return p.sealedHead(put(b, at, byte(n>>8), byte(n)))
}

// dstAt is where the destination address stands.
func (p plan) dstAt() int {
	if p.six {
		return p.net() + 24
	}
	return p.net() + 16
}

// own is the server to which the plan's frames go.
func (p plan) own() api.Dip {
	return api.Dip{Addr: p.view().Key.Dst, Port: 0xabcd}
}

// other is an address that is not the frames' own.
func (p plan) other() api.Addr {
	if p.six {
		return other6
	}
	return other4
}

// dips is servers that the plan's frames may go to: another address, another port, both, and their own.
func (p plan) dips() []api.Dip {
	own := p.own().Addr
	all := []api.Dip{{Addr: own, Port: 0xabcd}, {Addr: own}, {Addr: own, Port: 80}, {Addr: p.other(), Port: 0xabcd}, {Addr: p.other()}}
	list := []api.Addr{p.other(), {}, addr.V4(0, 0, 0, 1), addr.V4(1, 0, 0, 0), addr.V4(255, 255, 255, 255), from4}
	if p.six {
		list = []api.Addr{p.other(), {V6: true}, {V6: true, B: [16]byte{15: 1}}, {V6: true, B: [16]byte{1}}, {V6: true, B: [16]byte(bytes.Repeat([]byte{255}, 16))}, from6, {V6: true, B: other4.B}}
	}
	for _, a := range list {
		for _, port := range []uint16{0, 1, 80, 255, 256, 8080, 0xcdab, 32768, top} {
			all = append(all, api.Dip{Addr: a, Port: port})
		}
	}
	return all
}

// putNumber is b with two bytes of a number at a place.
func putNumber(b []byte, at, n int) []byte {
	return put(b, at, byte(n>>8), byte(n))
}

// raw is an address's bytes.
func raw(a api.Addr) []byte {
	if a.V6 {
		return a.B[:]
	}
	return a.B[:4]
}

// changed is the checksum in which words are others: RFC 1624, the third equation, told in another way.
func changed(old int, was, now []byte) int {
	for at := 0; at < len(was); at += 2 {
		old = top - total(now[at:at+2], top-old+top-number(was, at))
	}
	return old
}

// gone is what To must answer of a frame whose places are the plan's, told by numbers alone.
func gone(p plan, b []byte, d api.Dip) []byte {
	was, wasPort := b[p.dstAt():p.addrsEnd()], b[p.seg()+2:p.seg()+4]
	now, nowPort := raw(d.Addr), []byte{byte(d.Port >> 8), byte(d.Port)}
	if d.Port == 0 {
		nowPort = wasPort
	}
	out := put(put(b, p.dstAt(), now...), p.seg()+2, nowPort...)
	if !p.six {
		out = putNumber(out, p.net()+10, changed(number(b, p.net()+10), was, now))
	}
	old := number(b, p.sumAt())
	if p.proto == api.UDP && old == 0 {
		return out
	}
	sum := changed(changed(old, wasPort, nowPort), was, now)
	if p.proto == api.UDP && sum == 0 {
		sum = top
	}
	return putNumber(out, p.sumAt(), sum)
}

// differs is Differs told in another way.
func differs(a, b []byte) []int {
	short := min(len(a), len(b))
	var out []int
	for at := range short {
		if a[at] != b[at] {
			out = append(out, at)
		}
	}
	for at := short; at < len(a)+len(b)-short; at++ {
		out = append(out, at)
	}
	return out
}

// checkTo: just what must come of it, read with no reason, to the new server, good if it was, and nothing else is another.
func checkTo(t *testing.T, p plan, b []byte, d api.Dip) []byte {
	t.Helper()
	var out []byte
	held(t, "To", b, func() {
		var ok bool
		if out, ok = rewrite.To(b, d); !ok {
			t.Fatalf("To of %v .., to %v: false", front(b), d)
		}
	})
	if want := gone(p, b, d); !bytes.Equal(out, want) {
		t.Fatalf("To of %v .., to %v:\n got %d bytes %v\nwant %d bytes %v", front(b), d, len(out), front(out), len(want), front(want))
	}
	want, _ := frame.Read(b)
	want.Key.Dst = d.Addr
	if d.Port != 0 {
		want.Key.DstPort = d.Port
	}
	if v, reason := frame.Read(out); v != want || reason != 0 {
		t.Errorf("Read of what comes of %v .., to %v: %v, %d; want %v", front(b), d, v, reason, want)
	}
	if good := frame.Good(b); frame.Good(out) != good {
		t.Errorf("%v .., to %v: good is %v now", front(b), d, !good)
	}
	checkMoved(t, p, b, out)
	return out
}

// checkMoved: what comes of b differs in destination and checksums alone.
func checkMoved(t *testing.T, p plan, b, out []byte) {
	t.Helper()
	for _, at := range checkDiffers(t, b, out) {
		address := at >= p.dstAt() && at < p.addrsEnd()
		port := at == p.seg()+2 || at == p.seg()+3
		sum := at == p.sumAt() || at == p.sumAt()+1 || !p.six && (at == p.net()+10 || at == p.net()+11)
		if !address && !port && !sum {
			t.Errorf("what comes of %v .. differs at %d", front(b), at)
		}
	}
}

// checkNone: false, and no frame.
func checkNone(t *testing.T, b []byte, d api.Dip) {
	t.Helper()
	held(t, "To", b, func() {
		if out, ok := rewrite.To(b, d); ok || len(out) != 0 {
			t.Errorf("To of %v .., to %v = %v, %v; want none, false", front(b), d, front(out), ok)
		}
	})
}

func checkDiffers(t *testing.T, a, b []byte) []int {
	t.Helper()
	want := differs(a, b)
	held(t, "Differs", a, func() {
		held(t, "Differs", b, func() {
			for range 2 {
				if got := rewrite.Differs(a, b); !slices.Equal(got, want) {
					t.Errorf("Differs of %v .., %v ..:\n got %v\nwant %v", front(a), front(b), got, want)
				}
				a, b = b, a
			}
		})
	})
	return want
}

// P9.1, P9.3: frames of all kinds to servers of all kinds, in memory of their own size and in greater one.
func TestTo(t *testing.T) {
	for _, p := range plans() {
		b := p.frame()
		for _, d := range p.dips() {
			checkTo(t, p, b, d)
		}
		if !frame.Good(b) {
			t.Fatalf("not good: %v", front(b))
		}
		checkTo(t, p, b[:len(b):len(b)], api.Dip{Addr: p.other(), Port: 80})
		checkTo(t, p, append(make([]byte, 0, 2*len(b)), b...), api.Dip{Addr: p.other(), Port: 80})
	}
}

// P9.1: frames whose checksums were told by other means than these tests'.
func TestKnown(t *testing.T) {
	four := []byte{1, 2, 3, 4, 5, 6, 7, 8, 9, 10, 11, 12, 8, 0,
		0x45, 3, 0, 45, 1, 2, 0x40, 0, 7, 6, 0x5e, 0xc4, 10, 0, 0, 1, 10, 0, 0, 2,
		3, 0xe8, 0, 80, 0, 0, 0, 1, 0, 0, 0, 2, 0x50, 0x12, 1, 0, 0x52, 0xbe, 0, 0, 'h', 'e', 'l', 'l', 'o', 7, 8}
	six := slices.Concat([]byte{1, 2, 3, 4, 5, 6, 7, 8, 9, 10, 11, 12, 0x81, 0, 0x20, 5, 0x86, 0xdd,
		0x60, 0, 0, 0, 0, 10, 17, 9, 0x20, 1}, make([]byte, 13), []byte{1, 0x20, 1}, make([]byte, 13), []byte{2,
		0, 53, 0, 99, 0, 10, 0x56, 0xd4, 'h', 'i', 7})
	own4, far4 := addr.V4(10, 0, 0, 2), addr.V4(192, 168, 7, 200)
	own6, far6 := api.Addr{V6: true, B: [16]byte{0x20, 1, 15: 2}}, api.Addr{V6: true, B: [16]byte{0xfd, 7, 14: 0x12, 15: 0x34}}
	for _, c := range []struct {
		b          []byte
		d          api.Dip
		port       int
		head, sum  int
		dstAt, seg int
		sumAt      int
	}{
		{four, api.Dip{Addr: far4, Port: 8080}, 8080, 0xa055, 0x750f, 30, 34, 50},
		{four, api.Dip{Addr: far4}, 80, 0xa055, 0x944f, 30, 34, 50},
		{four, api.Dip{Addr: own4, Port: 8080}, 8080, 0x5ec4, 0x337e, 30, 34, 50},
		{four, api.Dip{Addr: own4}, 80, 0x5ec4, 0x52be, 30, 34, 50},
		{six, api.Dip{Addr: far6, Port: 443}, 443, -1, 0x6643, 42, 58, 64},
		{six, api.Dip{Addr: far6}, 99, -1, 0x679b, 42, 58, 64},
		{six, api.Dip{Addr: own6, Port: 443}, 443, -1, 0x557c, 42, 58, 64},
		{six, api.Dip{Addr: own6, Port: 99}, 99, -1, 0x56d4, 42, 58, 64},
	} {
		want := put(c.b, c.dstAt, raw(c.d.Addr)...)
		want = putNumber(putNumber(want, c.seg+2, c.port), c.sumAt, c.sum)
		if c.head >= 0 {
			want = putNumber(want, 24, c.head)
		}
		if out, ok := rewrite.To(c.b, c.d); !ok || !bytes.Equal(out, want) {
			t.Errorf("to %v:\n got %v, %v\nwant %v", c.d, out, ok, want)
		}
	}
}

// P9.1: of Port 0 the port stays, whichever it was, 0 too; of others it is that one, each byte in its place.
func TestPort(t *testing.T) {
	for _, p := range outers() {
		for _, port := range []int{0, 1, 80, 255, 256, 0x1234, top} {
			b := p.sealed(putNumber(p.frame(), p.seg()+2, port))
			for _, a := range []api.Addr{p.own().Addr, p.other()} {
				if out := checkTo(t, p, b, api.Dip{Addr: a}); number(out, p.seg()+2) != port {
					t.Errorf("the port was %d, and is %v", port, out[p.seg()+2:p.seg()+4])
				}
				if out := checkTo(t, p, b, api.Dip{Addr: a, Port: 0x0102}); number(out, p.seg()+2) != 0x0102 {
					t.Errorf("the port is %v", out[p.seg()+2:p.seg()+4])
				}
			}
		}
	}
}

// P9.1, P9.2: to where it goes nothing differs; there and back neither.
func TestSame(t *testing.T) {
	for _, p := range plans() {
		b, own := p.frame(), p.own()
		for _, d := range []api.Dip{own, {Addr: own.Addr}} {
			if out := checkTo(t, p, b, d); !bytes.Equal(out, b) || len(rewrite.Differs(b, out)) != 0 {
				t.Errorf("to where it goes: got %v, want %v", front(out), front(b))
			}
		}
		there := checkTo(t, p, b, api.Dip{Addr: p.other(), Port: 80})
		if back := checkTo(t, p, there, own); !bytes.Equal(back, b) {
			t.Errorf("there and back: got %v, want %v", front(back), front(b))
		}
	}
}

// P9.1, P9.3: the segment's checksum is changed, not made: one that was not good is not mended, nor one that was broken within.
func TestNotMended(t *testing.T) {
	for _, p := range outers() {
		b := p.frame()
		for _, off := range []int{1, 2, 255, 256, 4096, 32768, top - 1} {
			bad := putNumber(b, p.sumAt(), (number(b, p.sumAt())+off)%top)
			if number(bad, p.sumAt()) == 0 {
				continue
			}
			for _, d := range p.dips()[:8] {
				if out := checkTo(t, p, bad, d); frame.Good(out) {
					t.Errorf("mended: %v", front(out))
				}
			}
		}
		broken := put(b, p.end()-1, b[p.end()-1]^4)
		if out := checkTo(t, p, broken, api.Dip{Addr: p.other(), Port: 80}); frame.Good(out) {
			t.Errorf("mended: %v", front(out))
		}
	}
}

// P9.1, P9.3: UDP without a checksum stays without, wherever it goes, and so is good; TCP's 0 is changed as any other.
func TestWithout(t *testing.T) {
	for _, p := range outers() {
		b := putNumber(p.frame(), p.sumAt(), 0)
		for _, d := range p.dips() {
			out := checkTo(t, p, b, d)
			if p.proto == api.UDP && (number(out, p.sumAt()) != 0 || !frame.Good(out)) {
				t.Errorf("UDP without, to %v: %v", d, front(out))
			}
		}
		if out := checkTo(t, p, b, api.Dip{Addr: p.own().Addr, Port: 0xabcc}); p.proto == api.TCP && number(out, p.sumAt()) != 1 {
			t.Errorf("TCP's 0, with a port that is one less: %d", number(out, p.sumAt()))
		}
	}
}

// P9.1, P9.3: where the checksum would be 0 UDP's is 65535, and TCP's is 0; both are good.
func TestSumZero(t *testing.T) {
	for _, p := range outers() {
		b, d := p.frame(), api.Dip{Addr: p.other()}
		// Just the port with which the sum is full.
		d.Port = uint16((number(gone(p, b, d), p.sumAt()) + 0xabcd) % top)
		out := checkTo(t, p, b, d)
		want := map[byte]int{api.TCP: 0, api.UDP: top}[p.proto]
		if number(out, p.sumAt()) != want || !frame.Good(out) {
			t.Errorf("the checksum is %v, want %d", out[p.sumAt():p.sumAt()+2], want)
		}
		away := checkTo(t, p, out, api.Dip{Addr: p.other(), Port: d.Port - 2})
		if number(away, p.sumAt()) != 2 {
			t.Errorf("on to a port that is two less: the checksum is %v", away[p.sumAt():p.sumAt()+2])
		}
	}
}

// P9.1, P9.3: by 5's Dest a header's checksum that is 65535 is one with 0; of both the frame is read, and goes on.
func TestHeadSumEnds(t *testing.T) {
	for _, p := range outers() {
		if p.six {
			continue
		}
		b := putNumber(p.frame(), p.net()+4, 0)
		b = p.sealedHead(b)
		// Just the identification with which the sum of all others is full.
		b = p.sealedHead(putNumber(b, p.net()+4, number(b, p.net()+10)))
		if number(b, p.net()+10) != 0 {
			t.Fatalf("the header's checksum is %v", b[p.net()+10:p.net()+12])
		}
		for _, sum := range []int{0, top} {
			for _, d := range p.dips() {
				checkTo(t, p, putNumber(b, p.net()+10, sum), d)
			}
		}
	}
}

// P9.1: all else is as it was, whatever it is: the bytes ahead of the packet, the header's, the segment's, the data, and the padding.
func TestElse(t *testing.T) {
	n := noise(9)
	for _, p := range plans() {
		if p.data > 26 {
			continue
		}
		b := p.frame()
		copy(b, n.row(12))
		copy(b[p.end():], n.row(p.pad))
		copy(b[p.end()-p.data:], n.row(p.data))
		if p.proto == api.TCP {
			copy(b[p.seg()+4:], n.row(8))
			b = put(b, p.seg()+13, n.row(3)...)
			b = put(b, p.seg()+18, n.row(2)...)
		}
		b = put(b, p.seg(), n.row(4)...)
		b = put(b, p.addrs(), n.row(p.dstAt()-p.addrs())...)
		b = p.sealed(b)
		for _, d := range p.dips()[:12] {
			checkTo(t, p, b, d)
		}
	}
}

// P9.1: the padding is neither summed nor moved, however much there is, up to the greatest frame; of a greater one there is none.
func TestPadding(t *testing.T) {
	for _, p := range outers() {
		b, d := p.frame(), api.Dip{Addr: p.other(), Port: 80}
		short := checkTo(t, p, b, d)
		for _, pad := range [][]byte{{0}, {255}, row(2), make([]byte, 46), bytes.Repeat([]byte{255}, 1500), b, row(top - len(b))} {
			if out := checkTo(t, p, slices.Concat(b, pad), d); !bytes.Equal(out, slices.Concat(short, pad)) {
				t.Errorf("behind %d bytes of padding: %v", len(pad), front(out))
			}
		}
		checkNone(t, slices.Concat(b, row(top+1-len(b))), d)
		p.data += top - len(b)
		b = p.frame()
		checkTo(t, p, b, d)
		checkNone(t, append(b, 0), d)
	}
}

// P9.1: where the segment is of other bytes than UDP's length tells, all of the packet's are summed and stay.
func TestLength(t *testing.T) {
	for _, p := range outers() {
		if p.proto != api.UDP {
			continue
		}
		for length := 8; length <= 15; length++ {
			b := p.sealed(putNumber(p.frame(), p.seg()+4, length))
			if out := checkTo(t, p, b, api.Dip{Addr: p.other(), Port: 80}); !frame.Good(out) {
				t.Errorf("UDP's length %d: not good", length)
			}
		}
	}
}

// P9.1: false to an address of the other kind, whatever its bytes.
func TestOtherKind(t *testing.T) {
	for _, p := range plans() {
		if p.data > 26 {
			continue
		}
		b := p.frame()
		for _, d := range p.dips() {
			d.Addr.V6 = !p.six
			checkNone(t, b, d)
		}
		q := plan{six: !p.six}
		for _, d := range q.dips() {
			checkNone(t, b, d)
		}
	}
}

// P9.1: false to an address of IPv4 that has a byte behind the first four, whichever; of V6 all sixteen may be any.
func TestNotValid(t *testing.T) {
	for _, p := range outers() {
		b := p.frame()
		for at := range 16 {
			for bit := range 8 {
				for _, a := range []api.Addr{p.own().Addr, p.other()} {
					a.B[at] ^= 1 << bit
					for _, port := range []uint16{0, 80, 0xabcd} {
						if p.six || at < 4 {
							checkTo(t, p, b, api.Dip{Addr: a, Port: port})
						} else {
							checkNone(t, b, api.Dip{Addr: a, Port: port})
						}
					}
				}
			}
		}
	}
}

// fault is something that is wrong, and the reason that Read tells of it.
type fault struct {
	name   string
	reason int
	b      []byte
}

// faults is frames of the plan's kind of which Read tells each of its reasons.
func faults(p plan) []fault {
	b := p.frame()
	at := func(n int, part ...byte) []byte { return p.sealedHead(put(b, p.net()+n, part...)) }
	all := []fault{
		{"no bytes", api.Short, nil},
		{"ahead of the packet", api.Short, b[:p.net()-1]},
		{"no packet", api.Short, b[:p.net()]},
		{"few of the header", api.Short, b[:p.seg()-1]},
		{"cut", api.Short, b[:p.end()-1]},
		{"long", api.Short, slices.Concat(b, row(top))},
		{"other", api.NotIP, put(b, p.net()-2, 8, 6)},
		{"version", api.BadHead, at(0, 0x75)},
		{"few of the segment", api.Short, p.resized(b, p.seg()-p.end()+7)},
		{"size", api.BadHead, put(b, p.seg()+map[byte]int{api.TCP: 12, api.UDP: 4}[p.proto], 0x40, 0)},
	}
	if p.six {
		return append(all, fault{"fragment", api.Fragment, put(b, p.net()+6, 44)}, fault{"protocol", api.NotL4, put(b, p.net()+6, 58)})
	}
	return append(all,
		fault{"head", api.BadHead, at(0, 0x44)},
		fault{"sum", api.BadSum, put(b, p.net()+10, b[p.net()+10]^1)},
		fault{"fragment", api.Fragment, at(6, 0x20)},
		fault{"protocol", api.NotL4, at(9, 1)})
}

// P9.1: false of a frame that is not read, for whatever reason, with padding, too, and whoever it would go to.
func TestReasons(t *testing.T) {
	for _, p := range outers() {
		seen := map[int]bool{}
		for _, f := range faults(p) {
			if _, reason := frame.Read(f.b); reason != f.reason {
				t.Fatalf("%s: reason %d, want %d", f.name, reason, f.reason)
			}
			seen[f.reason] = true
			for _, d := range p.dips() {
				checkNone(t, f.b, d)
			}
			checkNone(t, f.b, api.Dip{})
			checkNone(t, f.b, api.Dip{Addr: api.Addr{V6: !p.six}})
			checkNone(t, f.b, api.Dip{Addr: api.Addr{B: [16]byte{15: 1}}, Port: 80})
		}
		if want := map[bool]int{false: 6, true: 5}[p.six]; len(seen) != want {
			t.Errorf("%d reasons, want %d", len(seen), want)
		}
	}
	checkNone(t, []byte{}, api.Dip{})
}

// P9.1: of each frame that ends too early there is none, whatever its spare room holds.
func TestShort(t *testing.T) {
	for _, p := range outers() {
		b := p.frame()
		for n := range p.end() {
			checkNone(t, b[:n], api.Dip{Addr: p.other(), Port: 80})
			checkNone(t, bytes.Clone(b[:n:n]), api.Dip{Addr: p.other(), Port: 80})
		}
	}
}

// P9.1, P9.3: whatever the bytes: what is read goes on, read as it was; what is not does not.
func TestNoise(t *testing.T) {
	n := noise(8)
	list := outers()
	for i := range 20000 {
		checkNone(t, n.row(i%120), api.Dip{Addr: other4, Port: 80})
		p := list[i%len(list)]
		p.pad = i % 5
		b, turn := p.frame(), n.row(9)
		for j := range 1 + i%3 {
			at := 12 + int(turn[j])%(len(b)-12)
			b[at] = turn[j+3]
		}
		if head := int(b[p.net()]&15) * 4; i%2 == 0 && head >= 12 && p.net()+head <= len(b) {
			b = p.sealedHead(b)
		}
		d := p.dips()[int(turn[6])%len(p.dips())]
		v, reason := frame.Read(b)
		if reason != 0 {
			checkNone(t, b, d)
			continue
		}
		p.proto = v.Key.Proto
		if want := p.view(); v.Net == want.Net && v.Seg == want.Seg {
			checkTo(t, p, b, d)
		}
	}
}

// P9.2: rows that differ nowhere, somewhere, everywhere; of different lengths, of none; and one held against itself.
func TestDiffers(t *testing.T) {
	for _, c := range []struct {
		a, b []byte
		want []int
	}{
		{nil, nil, nil},
		{nil, []byte{}, nil},
		{[]byte{}, []byte{}, nil},
		{nil, []byte{0}, []int{0}},
		{nil, []byte{0, 0, 0}, []int{0, 1, 2}},
		{[]byte{1}, []byte{1}, nil},
		{[]byte{1}, []byte{2}, []int{0}},
		{[]byte{0}, []byte{0, 0}, []int{1}},
		{[]byte{1, 2, 3}, []byte{1, 2, 3}, nil},
		{[]byte{1, 2, 3}, []byte{1, 9, 3}, []int{1}},
		{[]byte{1, 2, 3}, []byte{3, 2, 1}, []int{0, 2}},
		{[]byte{1, 2, 3}, []byte{2, 3, 1}, []int{0, 1, 2}},
		{[]byte{1, 2, 3}, []byte{1, 5}, []int{1, 2}},
		{[]byte{1, 2, 3}, []byte{2, 3}, []int{0, 1, 2}},
		{[]byte{0, 255}, []byte{255, 0, 0}, []int{0, 1, 2}},
		{[]byte{1, 2, 3, 4, 5}, []byte{1, 2}, []int{2, 3, 4}},
	} {
		if got := checkDiffers(t, c.a, c.b); !slices.Equal(got, c.want) {
			t.Errorf("%v, %v: %v, want %v", c.a, c.b, got, c.want)
		}
	}
}

// P9.2: each place alone, the first and the last too, of each bit; and one row that is a part of the other.
func TestDiffersOne(t *testing.T) {
	b := row(300)
	for at := range b {
		for bit := range 8 {
			if got := checkDiffers(t, b, put(b, at, b[at]^1<<bit)); !slices.Equal(got, []int{at}) {
				t.Errorf("%v, want %d", got, at)
			}
		}
		checkDiffers(t, b, b[:at])
		checkDiffers(t, b, b[at:])
	}
	if got := checkDiffers(t, b, b); len(got) != 0 {
		t.Errorf("held against itself: %v", got)
	}
}

// P9.2: rows of noise, whose places are few or many.
func TestDiffersOfNoise(t *testing.T) {
	n := noise(3)
	for i := range 5000 {
		a, b := n.row(i%70), n.row(i/7%70)
		checkDiffers(t, a, b)
		for at := range a {
			a[at] &= 1
		}
		for at := range b {
			b[at] &= 1
		}
		checkDiffers(t, a, b)
	}
	checkDiffers(t, n.row(1<<17), n.row(1<<17+3))
}

// P9.3: what is answered shares no memory with what was handed in, nor with another answer.
func TestNew(t *testing.T) {
	for _, p := range outers() {
		p.pad = 3
		for _, d := range p.dips()[:8] {
			b := append(p.frame(), row(9)...)[:p.end()+3]
			one, _ := rewrite.To(b, d)
			two, _ := rewrite.To(b, d)
			want := bytes.Clone(two)
			held(t, "a change of what is answered", b, func() {
				for i := range one {
					one[i]++
				}
				clear(one[len(one):cap(one)])
			})
			clear(b[:cap(b)])
			if !bytes.Equal(two, want) || len(two) != p.end()+3 {
				t.Errorf("what is answered shares memory: %v, was %v", front(two), front(want))
			}
		}
	}
	a, b := []byte{1, 2, 3}, []byte{1, 5}
	one, two := rewrite.Differs(a, b), rewrite.Differs(a, b)
	clear(one[:cap(one)])
	if !slices.Equal(two, []int{1, 2}) {
		t.Errorf("what is answered shares memory: %v", two)
	}
}

// P9.3: nothing is kept: an answer hangs on the arguments alone, whatever was asked ahead of it.
func TestNotKept(t *testing.T) {
	list := outers()
	for i, p := range list {
		b, d := p.frame(), api.Dip{Addr: p.other(), Port: 80}
		want := checkTo(t, p, b, d)
		q := list[len(list)-1-i]
		b = append(b[:0], q.frame()...)
		checkTo(t, q, b, api.Dip{Addr: q.other()})
		clear(b)
		checkNone(t, b, d)
		if out := checkTo(t, p, p.frame(), d); !bytes.Equal(out, want) {
			t.Errorf("got %v, want %v", front(out), front(want))
		}
	}
}
