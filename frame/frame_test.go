package frame_test

import (
	"bytes"
	"fmt"
	"slices"
	"strings"
	"testing"

	"bazaar/addr"
	"bazaar/api"
	"bazaar/frame"
)

const top = 65535

var (
	from4  = addr.V4(10, 1, 2, 3)
	where4 = addr.V4(192, 168, 200, 255)
	from6  = api.Addr{V6: true, B: [16]byte{0x20, 1, 0x0d, 0xb8, 5, 6, 7, 8, 9, 10, 11, 12, 13, 14, 15, 16}}
	where6 = api.Addr{V6: true, B: [16]byte{0xfd, 200, 199, 198, 197, 196, 195, 194, 193, 192, 191, 190, 189, 188, 187, 255}}
)

// plan is what a good frame has in it.
type plan struct {
	tag, six bool
	proto    byte
	options4 int // bytes of IPv4's
	options  int // bytes of TCP's
	data     int
	pad      int
}

func (p plan) net() int {
	if p.tag {
		return 18
	}
	return 14
}

func (p plan) seg() int {
	if p.six {
		return p.net() + 40
	}
	return p.net() + 20 + p.options4
}

func (p plan) end() int {
	if p.proto == api.UDP {
		return p.seg() + 8 + p.data
	}
	return p.seg() + 20 + p.options + p.data
}

// sumAt is the place of the segment's checksum.
func (p plan) sumAt() int {
	return p.seg() + map[byte]int{api.TCP: 16, api.UDP: 6}[p.proto]
}

// view is what is to be read.
func (p plan) view() api.View {
	v := api.View{V6: p.six, Net: p.net(), Seg: p.seg(), End: p.end(), Key: api.Key{Proto: p.proto, Src: from4, Dst: where4, SrcPort: 0x1234, DstPort: 0xabcd}}
	if p.six {
		v.Key.Src, v.Key.Dst = from6, where6
	}
	if p.proto == api.TCP {
		v.Flags = 0x5a
	}
	return v
}

// outer is the layers ahead of the packet.
func (p plan) outer() string {
	if p.tag {
		return "ether 0 vlan 14"
	}
	return "ether 0"
}

// middle is the layers ahead of the segment.
func (p plan) middle() string {
	if p.six {
		return fmt.Sprintf("%s ipv6 %d", p.outer(), p.net())
	}
	return fmt.Sprintf("%s ipv4 %d", p.outer(), p.net())
}

// all is all layers.
func (p plan) all() string {
	return fmt.Sprintf("%s %s %d", p.middle(), map[byte]string{api.TCP: "tcp", api.UDP: "udp"}[p.proto], p.seg())
}

// frame is the bytes, each of which says something.
func (p plan) frame() []byte {
	b := []byte{1, 2, 3, 4, 5, 6, 7, 8, 9, 10, 11, 12}
	if p.tag {
		b = append(b, 0x81, 0, 0x20, 5)
	}
	n := p.end() - p.seg()
	if p.six {
		b = append(b, 0x86, 0xdd, 0x6f, 0xe1, 0xd2, 0xc3, byte(n>>8), byte(n), p.proto, 63)
		b = slices.Concat(b, from6.B[:], where6.B[:])
	} else {
		size := 20 + p.options4
		b = append(b, 8, 0, 0x40|byte(size/4), 3, byte((size+n)>>8), byte(size+n), 1, 2, 0x40, 0, 63, p.proto, 0, 0)
		b = slices.Concat(b, from4.B[:4], where4.B[:4], row(p.options4))
	}
	b = append(b, 0x12, 0x34, 0xab, 0xcd)
	if p.proto == api.UDP {
		b = append(b, byte(n>>8), byte(n), 0, 0)
	} else {
		b = append(b, 1, 2, 3, 4, 5, 6, 7, 8, byte((20+p.options)/4)<<4|0x0e, 0x5a, 0x71, 0x82, 0, 0, 0xb5, 0xc6)
	}
	b = slices.Concat(b, row(p.options*int(1-p.proto/api.UDP)), row(p.data), row(p.pad))
	return p.sealed(b)
}

// sealed is b with its checksums, whose places are those of the plan.
func (p plan) sealed(b []byte) []byte {
	b = p.sealedHead(b)
	v := p.view()
	b = put(b, p.sumAt(), 0, 0)
	sum := top - whole(b[v.Seg:v.End], v.Key.Proto, b[p.addrs():p.addrsEnd()])
	if sum == 0 && p.proto == api.UDP {
		sum = top
	}
	return put(b, p.sumAt(), byte(sum>>8), byte(sum))
}

// sealedHead is b with the IPv4 header's checksum.
func (p plan) sealedHead(b []byte) []byte {
	if p.six {
		return b
	}
	at := p.net() + 10
	b = put(b, at, 0, 0)
	sum := top - total(b[p.net():p.net()+int(b[p.net()]&15)*4], 0)
	return put(b, at, byte(sum>>8), byte(sum))
}

// addrs is where both addresses stand.
func (p plan) addrs() int {
	if p.six {
		return p.net() + 8
	}
	return p.net() + 12
}

func (p plan) addrsEnd() int {
	if p.six {
		return p.net() + 40
	}
	return p.net() + 20
}

// total is b's words, added to start, gone round; the last one of an odd b has a 0 behind.
func total(b []byte, start int) int {
	for i, n := range b {
		if i%2 == 0 {
			start += int(n) * 256
		} else {
			start += int(n)
		}
	}
	if start == 0 {
		return 0
	}
	return (start-1)%top + 1
}

// whole is the sum over a segment and its pseudo header, of which both addresses are handed in.
func whole(b []byte, proto byte, both []byte) int {
	return total(b, int(proto)+len(b)+total(both, 0))
}

// put is b with part at a place.
func put(b []byte, at int, part ...byte) []byte {
	out := bytes.Clone(b)
	copy(out[at:], part)
	return out
}

// number is two bytes of b.
func number(b []byte, at int) int {
	return int(b[at])<<8 + int(b[at+1])
}

// row is n bytes, none of them 0, of which no two neighbours are the same.
func row(n int) []byte {
	b := make([]byte, n)
	for i := range b {
		b[i] = byte(i%250 + 3)
	}
	return b
}

// noise answers rows of bytes, always the same ones.
type noise uint32

func (n *noise) row(size int) []byte {
	b := make([]byte, size)
	for i := range b {
		*n = *n*1664525 + 1013904223
		b[i] = byte(*n >> 24)
	}
	return b
}

// outers is plans of each kind, with nothing that need not be.
func outers() []plan {
	var out []plan
	for i := range 8 {
		out = append(out, plan{tag: i&1 != 0, six: i&2 != 0, proto: []byte{api.TCP, api.UDP}[i>>2], data: 7})
	}
	return out
}

// plans is frames of all kinds, with options and without, with no data and some, with padding and without.
func plans() []plan {
	var out []plan
	for _, p := range outers() {
		for _, p.data = range []int{0, 1, 2, 26, 247, 248, 1400} {
			for _, p.pad = range []int{0, 1, 6, 46} {
				out = append(out, p)
			}
		}
		for _, p.options4 = range []int{0, 4, 40} {
			for _, p.options = range []int{0, 4, 40} {
				if (p.six && p.options4 > 0) || (p.proto == api.UDP && p.options > 0) {
					continue
				}
				p.data, p.pad = 9, 3
				out = append(out, p)
			}
		}
	}
	return out
}

// held calls do, and holds all of b's memory against what it was.
func held(t *testing.T, what string, b []byte, do func()) {
	t.Helper()
	was := bytes.Clone(b[:cap(b)])
	do()
	if !bytes.Equal(b[:cap(b)], was) {
		t.Errorf("%s has changed what was handed in, or its spare room", what)
	}
}

func front(b []byte) []byte {
	return b[:min(len(b), 84)]
}

// shown is the layers that are told, as a text.
func shown(b []byte) string {
	var out []string
	for name, at := range frame.Layers(b) {
		out = append(out, fmt.Sprintf("%s %d", name, at))
	}
	return strings.Join(out, " ")
}

// check: Read tells just that, Good and Layers too.
func check(t *testing.T, b []byte, view api.View, reason int, layers string, good bool) {
	t.Helper()
	held(t, "Read", b, func() {
		if v, r := frame.Read(b); v != view || r != reason {
			t.Errorf("Read of %d bytes %v .. = %v, %d; want %v, %d", len(b), front(b), v, r, view, reason)
		}
	})
	held(t, "Layers", b, func() {
		if got := shown(b); got != layers {
			t.Errorf("Layers of %d bytes %v .. = %q; want %q", len(b), front(b), got, layers)
		}
	})
	held(t, "Good", b, func() {
		if got := frame.Good(b); got != good {
			t.Errorf("Good of %d bytes %v .. = %v", len(b), front(b), got)
		}
	})
}

// checkReason: no view behind it, and no frame that is good.
func checkReason(t *testing.T, b []byte, reason int, layers string) {
	t.Helper()
	check(t, b, api.View{}, reason, layers, false)
}

// checkGood: all of it, as the plan says.
func checkGood(t *testing.T, b []byte, p plan) {
	t.Helper()
	check(t, b, p.view(), 0, p.all(), true)
}

// P8.1, P8.2: frames of all kinds, in memory of their own size and in greater one.
func TestGoodFrames(t *testing.T) {
	for _, p := range plans() {
		b := p.frame()
		checkGood(t, b, p)
		checkGood(t, b[:len(b):len(b)], p)
		checkGood(t, append(make([]byte, 0, 2*len(b)), b...), p)
	}
}

// P8.1, P8.2: frames and checksums that were told by other means than these tests'.
func TestKnown(t *testing.T) {
	one := []byte{1, 2, 3, 4, 5, 6, 7, 8, 9, 10, 11, 12, 8, 0,
		0x45, 3, 0, 45, 1, 2, 0x40, 0, 7, 6, 0x5e, 0xc4, 10, 0, 0, 1, 10, 0, 0, 2,
		3, 0xe8, 0, 80, 0, 0, 0, 1, 0, 0, 0, 2, 0x50, 0x12, 1, 0, 0x52, 0xbe, 0, 0, 'h', 'e', 'l', 'l', 'o'}
	key := api.Key{Proto: api.TCP, Src: addr.V4(10, 0, 0, 1), Dst: addr.V4(10, 0, 0, 2), SrcPort: 1000, DstPort: 80}
	view := api.View{Net: 14, Seg: 34, End: 59, Key: key, Flags: 0x12}
	check(t, one, view, 0, "ether 0 ipv4 14 tcp 34", true)
	check(t, slices.Concat(one, []byte{0}), view, 0, "ether 0 ipv4 14 tcp 34", true)
	check(t, put(one, 50, 0x52, 0xbd), view, 0, "ether 0 ipv4 14 tcp 34", false)
	two := slices.Concat([]byte{1, 2, 3, 4, 5, 6, 7, 8, 9, 10, 11, 12, 0x81, 0, 0x20, 5, 0x86, 0xdd,
		0x60, 0, 0, 0, 0, 10, 17, 9, 0x20, 1}, make([]byte, 13), []byte{1, 0x20, 1}, make([]byte, 13), []byte{2,
		0, 53, 0, 99, 0, 10, 0x56, 0xd4, 'h', 'i'})
	key = api.Key{Proto: api.UDP, Src: api.Addr{V6: true, B: [16]byte{0x20, 1, 15: 1}}, Dst: api.Addr{V6: true, B: [16]byte{0x20, 1, 15: 2}}, SrcPort: 53, DstPort: 99}
	view = api.View{V6: true, Net: 18, Seg: 58, End: 68, Key: key}
	check(t, two, view, 0, "ether 0 vlan 14 ipv6 18 udp 58", true)
	check(t, put(two, 67, 'j'), view, 0, "ether 0 vlan 14 ipv6 18 udp 58", false)
}

// P8.1: each field comes from its own bytes, and from them alone; of each layer one.
func TestReadFields(t *testing.T) {
	for _, p := range outers() {
		b := p.frame()
		for at := range 12 {
			checkGood(t, put(b, at, b[at]^0x81), p)
		}
		if p.tag {
			checkGood(t, put(b, 14, 0xff, 0xff), p)
			checkGood(t, put(b, 14, 0x81, 0), p)
		}
		size := (p.addrsEnd() - p.addrs()) / 2
		for i := range size {
			want, src, dst := p.view(), p.addrs()+i, p.addrs()+size+i
			want.Key.Src.B[i] ^= 0x81
			check(t, p.sealedHead(put(b, src, b[src]^0x81)), want, 0, p.all(), false)
			check(t, p.sealed(put(b, src, b[src]^0x81)), want, 0, p.all(), true)
			want = p.view()
			want.Key.Dst.B[i] ^= 0x81
			check(t, p.sealedHead(put(b, dst, b[dst]^0x81)), want, 0, p.all(), false)
			check(t, p.sealed(put(b, dst, b[dst]^0x81)), want, 0, p.all(), true)
		}
		want := p.view()
		want.Key.SrcPort, want.Key.DstPort = 0x0102, 0xfffe
		check(t, p.sealed(put(b, p.seg(), 1, 2, 255, 254)), want, 0, p.all(), true)
		for v := range 256 {
			if p.proto == api.TCP {
				want = p.view()
				want.Flags = byte(v)
				check(t, p.sealed(put(b, p.seg()+13, byte(v))), want, 0, p.all(), true)
			} else {
				check(t, p.sealed(put(b, p.seg()+13, byte(v))), p.view(), 0, p.all(), true)
			}
		}
	}
}

// P8.1: both sizes of an IPv4 header are looked at, and each between; TCP's options stand behind Seg.
func TestReadOptions(t *testing.T) {
	for n := 0; n <= 40; n += 4 {
		for _, proto := range []byte{api.TCP, api.UDP} {
			p := plan{proto: proto, options4: n, data: 5, tag: n%8 == 0}
			checkGood(t, p.frame(), p)
		}
		p := plan{proto: api.TCP, options: n, data: 5, six: n%8 == 0}
		checkGood(t, p.frame(), p)
	}
}

// P8.1, P8.2: Short of a frame that ends ahead of where what follows begins, and no layers: of 13 bytes, or behind a tag of 17.
func TestFew(t *testing.T) {
	for _, p := range outers() {
		b := p.frame()
		for n := range p.net() {
			checkReason(t, b[:n], api.Short, "")
			checkReason(t, bytes.Clone(b[:n:n]), api.Short, "")
			checkReason(t, make([]byte, min(n, 13)), api.Short, "")
		}
		checkReason(t, b[:p.net()], api.Short, p.outer())
		checkReason(t, bytes.Clone(b[:p.net():p.net()]), api.Short, p.outer())
	}
	checkReason(t, nil, api.Short, "")
	checkReason(t, []byte{}, api.Short, "")
	checkReason(t, make([]byte, 14), api.NotIP, "ether 0")
	checkReason(t, append(make([]byte, 12), 0x81, 0), api.Short, "")
	checkReason(t, append(make([]byte, 12), 0x81, 0, 0, 0, 8), api.Short, "")
	checkReason(t, append(make([]byte, 12), 0x81, 0, 0, 0, 8, 6), api.NotIP, "ether 0 vlan 14")
}

// P8.1, P8.2: a frame that is cut anywhere ahead of the packet's end is Short; behind that end it may end anywhere.
func TestCut(t *testing.T) {
	for _, p := range plans() {
		if p.data > 26 {
			continue
		}
		b := p.frame()
		for n := p.net(); n < p.end(); n++ {
			checkReason(t, b[:n], api.Short, p.outer())
			checkReason(t, bytes.Clone(b[:n:n]), api.Short, p.outer())
		}
		for n := p.end(); n <= len(b); n++ {
			checkGood(t, b[:n], p)
		}
	}
}

// P8.1: End is where the packet ends, whatever stands behind it, and however much.
func TestPadding(t *testing.T) {
	for _, p := range outers() {
		b := p.frame()
		for _, pad := range [][]byte{{0}, {255}, row(2), make([]byte, 46), bytes.Repeat([]byte{255}, 1500), b, row(top - len(b))} {
			checkGood(t, slices.Concat(b, pad), p)
		}
		// A packet that says that it is shorter: UDP's length, or TCP's checksum, is of more than there is.
		for n := 1; n <= 7; n++ {
			short := p.resized(b, -n)
			want := p.view()
			want.End -= n
			if p.proto == api.TCP {
				check(t, short, want, 0, p.all(), false)
				short = slices.Concat(short[:p.end()-n], row(n+9))
				check(t, short, want, 0, p.all(), false)
			} else {
				checkReason(t, short, api.BadHead, p.middle())
			}
		}
	}
}

// resized is b whose packet says that it has n bytes more.
func (p plan) resized(b []byte, n int) []byte {
	at := p.net() + 2
	if p.six {
		at = p.net() + 4
	}
	n += number(b, at)
	return p.sealedHead(put(b, at, byte(n>>8), byte(n)))
}

// P8.1, P8.2: 65535 bytes will do, one more will not: padding, or the packet's own. Layers tells the same of both.
func TestMost(t *testing.T) {
	for _, p := range outers() {
		b := p.frame()
		checkGood(t, slices.Concat(b, row(top-len(b))), p)
		for _, more := range []int{1, 2, 4000, 1 << 17} {
			checkReason(t, slices.Concat(b, row(top-len(b)+more)), api.Short, p.all())
		}
		p.data += top - len(b)
		b = p.frame()
		checkGood(t, b, p)
		if len(b) != top {
			t.Fatalf("a frame of %d bytes", len(b))
		}
		checkReason(t, append(b, 0), api.Short, p.all())
		checkReason(t, b[:top-1], api.Short, p.outer())
		p.data++
		checkReason(t, p.frame(), api.Short, p.all())
	}
}

// P8.1, P8.2: the longest packets are in no frame; their layers can be told.
func TestLongest(t *testing.T) {
	for _, p := range outers() {
		p.data = top - (plan{six: p.six, proto: p.proto}).end() + 14
		if p.six {
			p.data += 40
		}
		b := p.frame()
		if number(b, p.net()+map[bool]int{false: 2, true: 4}[p.six]) != top {
			t.Fatalf("not the longest one: %v", front(b))
		}
		checkReason(t, b, api.Short, p.all())
		checkReason(t, append(b, 1, 2, 3), api.Short, p.all())
		checkReason(t, b[:len(b)-1], api.Short, p.outer())
	}
}

// P8.1, P8.2: NotIP of whatever follows that is neither, behind one tag, too; of more than one tag.
func TestNotIP(t *testing.T) {
	for _, p := range outers() {
		b := p.frame()
		for _, kind := range [][2]byte{{8, 6}, {0, 0}, {8, 1}, {0, 8}, {0x86, 0xdc}, {0xdd, 0x86}, {0x88, 0xa8}, {0x81, 1}, {0x80, 0}, {255, 255}} {
			checkReason(t, put(b, p.net()-2, kind[:]...), api.NotIP, p.outer())
			checkReason(t, put(b, p.net()-2, kind[:]...)[:p.net()], api.NotIP, p.outer())
			checkReason(t, slices.Concat(put(b, p.net()-2, kind[:]...), row(top)), api.NotIP, p.outer())
		}
		checkReason(t, slices.Insert(b, 12, 0x81, 0, 0x81, 0, 0, 1), api.NotIP, "ether 0 vlan 14")
	}
	arp := append(bytes.Repeat([]byte{255}, 6), 1, 2, 3, 4, 5, 6, 8, 6, 0, 1, 8, 0, 6, 4, 0, 1)
	checkReason(t, arp, api.NotIP, "ether 0")
}

// P8.1, P8.2: what follows is read as what the kind says, whatever it seems to be.
func TestOtherKind(t *testing.T) {
	for _, p := range outers() {
		b := p.frame()
		if p.six {
			checkReason(t, put(b, p.net()-2, 8, 0), api.BadHead, p.outer())
		} else {
			checkReason(t, slices.Concat(put(b, p.net()-2, 0x86, 0xdd), row(40)), api.BadHead, p.outer())
		}
	}
}

// fault is something that is wrong, the reason for it, and the layers ahead of it.
type fault struct {
	name   string
	reason int
	layers func(plan) string
	make   func(plan, []byte) []byte
}

// faults is those of both kinds of packets, in the order in which they are told.
func faults() []fault {
	at := func(n int, part ...byte) func(plan, []byte) []byte {
		return func(p plan, b []byte) []byte { return p.sealedHead(put(b, p.net()+n, part...)) }
	}
	return []fault{
		{"version", api.BadHead, plan.outer, at(0, 0x75)},
		{"cut", api.Short, plan.outer, func(p plan, b []byte) []byte { return b[:p.end()-1] }},
		{"sum", api.BadSum, plan.outer, func(p plan, b []byte) []byte { return put(b, p.net()+10, b[p.net()+10]^1) }},
		{"fragment", api.Fragment, plan.outer, at(6, 0x20)},
		{"other", api.NotL4, plan.outer, at(9, 1)},
		{"few", api.Short, plan.middle, func(p plan, b []byte) []byte { return p.resized(b, p.seg()-p.end()+7) }},
		{"head", api.BadHead, plan.middle, func(p plan, b []byte) []byte {
			return put(b, p.seg()+map[byte]int{api.TCP: 12, api.UDP: 4}[p.proto], 0x40, 0)
		}},
	}
}

// faults6 is those of IPv6, which has fewer of them.
func faults6() []fault {
	at := func(v byte) func(plan, []byte) []byte {
		return func(p plan, b []byte) []byte { return put(b, p.net()+6, v) }
	}
	all := faults()
	return []fault{all[0], all[1], {"fragment", api.Fragment, plan.outer, at(44)}, {"other", api.NotL4, plan.outer, at(58)}, all[5], all[6]}
}

// P8.1, P8.2: a reason of each layer, and the layers up to there.
func TestReasons(t *testing.T) {
	for _, p := range outers() {
		list := faults()
		if p.six {
			list = faults6()
		}
		for _, f := range list {
			t.Log(f.name)
			b := f.make(p, p.frame())
			checkReason(t, b, f.reason, f.layers(p))
			if f.name != "cut" {
				checkReason(t, slices.Concat(b, row(99)), f.reason, f.layers(p))
				checkReason(t, slices.Concat(b, row(top)), api.Short, f.layers(p))
			}
		}
	}
}

// P8.1, P8.2: where two faults are in one frame, the first one is told; the inner ones are made ahead of the outer ones.
func TestFirst(t *testing.T) {
	for _, p := range outers() {
		list := faults()
		if p.six {
			list = faults6()
		}
		for i, f := range list {
			for _, g := range list[i+1:] {
				if f.name == "cut" && g.name == "few" {
					continue // the packet of too few bytes is not cut any more
				}
				t.Log(f.name, g.name)
				b := f.make(p, g.make(p, p.frame()))
				checkReason(t, b, f.reason, f.layers(p))
				checkReason(t, put(b, p.net()-2, 8, 6), api.NotIP, p.outer())
				checkReason(t, b[:p.net()-1], api.Short, "")
				long := slices.Concat(b, row(top))
				if f.name != "cut" {
					checkReason(t, long, api.Short, f.layers(p))
				}
				checkReason(t, put(long, p.net()-2, 8, 6), api.NotIP, p.outer())
			}
		}
	}
}

// P8.1: the segment has the packet's bytes alone: none of the padding, which would do.
func TestSegmentInPacket(t *testing.T) {
	for _, p := range outers() {
		head := map[byte]int{api.TCP: 20, api.UDP: 8}[p.proto]
		for n := range head {
			b := slices.Concat(p.frame(), row(60))
			checkReason(t, p.resized(b, p.seg()-p.end()+n), api.Short, p.middle())
		}
		if p.proto == api.TCP {
			for n := 20; n < 60; n++ {
				b := slices.Concat(p.resized(p.frame(), p.seg()-p.end()+n), row(60))
				checkReason(t, put(b, p.seg()+12, 0xf0), api.BadHead, p.middle())
			}
		} else {
			b := slices.Concat(p.frame(), row(60))
			checkReason(t, put(b, p.seg()+4, 0, 16), api.BadHead, p.middle())
			want := p.view()
			check(t, put(b, p.seg()+4, 0, 14), want, 0, p.all(), false)
			check(t, put(b, p.seg()+4, 0, 8), want, 0, p.all(), false)
		}
	}
}

// P8.2: good, unless a bit of the segment or of the addresses is another one; the padding, and what no checksum is of, may be any.
func TestGoodBits(t *testing.T) {
	for _, p := range outers() {
		p.pad = 5
		b := p.frame()
		for at := range b {
			for bit := range 8 {
				turned := put(b, at, b[at]^1<<bit)
				good := at < 12 || at >= p.end() || p.tag && (at == 14 || at == 15) || p.six && (at == p.net() && bit < 4 || at > p.net() && at < p.net()+4 || at == p.net()+7)
				if got := frame.Good(turned); got != good {
					t.Errorf("Good of %v, bit %d of %d turned, = %v", b, bit, at, got)
				}
			}
		}
	}
}

// P8.2: UDP without a checksum is good, whatever it is; TCP never is without.
func TestGoodWithout(t *testing.T) {
	for _, p := range outers() {
		b := put(p.frame(), p.sumAt(), 0, 0)
		check(t, b, p.view(), 0, p.all(), p.proto == api.UDP)
		check(t, put(b, p.end()-1, 200), p.view(), 0, p.all(), p.proto == api.UDP)
	}
	for _, p := range outers() {
		// Just the data with which the sum of nothing is 0.
		p.data = 2
		b := put(p.frame(), p.sumAt(), 0, 0)
		b = put(b, p.end()-2, 0, 0)
		v := p.view()
		sum := top - whole(b[v.Seg:v.End], p.proto, b[p.addrs():p.addrsEnd()])
		b = put(b, p.end()-2, byte(sum>>8), byte(sum))
		checkGood(t, b, p)
		checkGood(t, put(b, p.sumAt(), 255, 255), p)
		check(t, put(b, p.sumAt(), 255, 254), p.view(), 0, p.all(), false)
	}
}

// P8.2: a checksum that is of the segment and of the padding, or of a part of it, is none.
func TestGoodOfPacket(t *testing.T) {
	for _, p := range outers() {
		p.pad = 4
		b := p.frame()
		for _, end := range []int{p.end() - 2, p.end() + 2, p.end() + 4} {
			b = put(b, p.sumAt(), 0, 0)
			sum := top - whole(b[p.seg():end], p.proto, b[p.addrs():p.addrsEnd()])
			check(t, put(b, p.sumAt(), byte(sum>>8), byte(sum)), p.view(), 0, p.all(), false)
		}
	}
}

// rule is the whole of Read and Layers told in another way, without the layers below.
func rule(b []byte) (v api.View, reason int, layers string) {
	net := 14
	if len(b) >= 14 && number(b, 12) == 0x8100 {
		net = 18
	}
	if len(b) < net {
		return v, api.Short, ""
	}
	layers = "ether 0"
	if net == 18 {
		layers += " vlan 14"
	}
	kind := number(b, net-2)
	if kind != 0x800 && kind != 0x86dd {
		return v, api.NotIP, layers
	}
	var inner string
	v, reason, inner = rulePacket(b, net, kind == 0x86dd)
	if len(b) > top {
		reason = api.Short
	}
	if reason != 0 {
		v = api.View{}
	}
	return v, reason, layers + inner
}

// rulePacket is rule's behind Ethernet.
func rulePacket(b []byte, net int, six bool) (v api.View, reason int, layers string) {
	size, sizeOf, rest := 20, 2, b[net:]
	if six {
		size, sizeOf = 40, 4
	}
	if len(rest) < size {
		return v, api.Short, ""
	}
	length := number(rest, sizeOf)
	if six {
		length += 40
	} else {
		size = int(rest[0]%16) * 4
	}
	if (six && rest[0]/16 != 6) || (!six && (rest[0]/16 != 4 || size < 20 || length < size)) {
		return v, api.BadHead, ""
	}
	if length > len(rest) {
		return v, api.Short, ""
	}
	v = api.View{V6: six, Net: net, Seg: net + size, End: net + length}
	if six {
		v.Key = api.Key{Proto: rest[6], Src: api.Addr{V6: true, B: [16]byte(rest[8:24])}, Dst: api.Addr{V6: true, B: [16]byte(rest[24:40])}}
	} else {
		v.Key = api.Key{Proto: rest[9], Src: addr.V4(rest[12], rest[13], rest[14], rest[15]), Dst: addr.V4(rest[16], rest[17], rest[18], rest[19])}
		if total(rest[:size], 0) != top {
			return v, api.BadSum, ""
		}
	}
	if (six && rest[6] == 44) || (!six && number(rest, 6)&0x3fff != 0) {
		return v, api.Fragment, ""
	}
	least, name := 8, "udp"
	switch v.Key.Proto {
	case 6:
		least, name = 20, "tcp"
	case 17:
	default:
		return v, api.NotL4, ""
	}
	layers = fmt.Sprintf(" %s %d", map[bool]string{false: "ipv4", true: "ipv6"}[six], net)
	s := b[v.Seg:v.End]
	if len(s) < least {
		return v, api.Short, layers
	}
	says := number(s, 4)
	if least == 20 {
		says, v.Flags = int(s[12]/16)*4, s[13]
	}
	if says < least || says > len(s) {
		return v, api.BadHead, layers
	}
	v.Key.SrcPort, v.Key.DstPort = uint16(number(s, 0)), uint16(number(s, 2))
	return v, 0, layers + fmt.Sprintf(" %s %d", name, v.Seg)
}

// ruleGood is Good's of a frame that is read.
func ruleGood(b []byte, v api.View) bool {
	size := map[bool]int{false: 4, true: 16}[v.V6]
	s := b[v.Seg:v.End]
	if v.Key.Proto == api.UDP && number(s, 6) == 0 {
		return true
	}
	return whole(s, v.Key.Proto, slices.Concat(v.Key.Src.B[:size], v.Key.Dst.B[:size])) == top
}

func checkRule(t *testing.T, b []byte) {
	t.Helper()
	v, reason, layers := rule(b)
	check(t, b, v, reason, layers, reason == 0 && ruleGood(b, v))
}

// P8.1, P8.2: whatever one byte of a frame is, there is one answer, and it is the rule's.
func TestEachByte(t *testing.T) {
	for _, p := range outers() {
		p.pad = 2
		b := p.frame()
		for at := 12; at < len(b); at++ {
			for v := range 256 {
				turned := put(b, at, byte(v))
				checkRule(t, turned)
				if !p.six && at >= p.net() && at < p.seg() {
					head := int(turned[p.net()]&15) * 4
					if head >= 12 && p.net()+head <= len(b) {
						checkRule(t, p.sealedHead(turned))
					}
				}
			}
		}
	}
}

// P8.1, P8.2, P8.3: whatever the bytes, Read ends with a reason or a view, and it is the rule's.
func TestNoise(t *testing.T) {
	n := noise(8)
	list := plans()
	for i := range 20000 {
		checkRule(t, n.row(i%120))
		p := list[i%len(list)]
		if p.data > 26 {
			continue
		}
		b, turn := p.frame(), n.row(9)
		for j := range 1 + i%3 {
			at := 12 + int(turn[j])%(len(b)-12)
			b[at] = turn[j+3]
		}
		if head := int(b[p.net()]&15) * 4; i%2 == 0 && head >= 12 && p.net()+head <= len(b) {
			b = p.sealedHead(b)
		}
		checkRule(t, b)
		checkRule(t, b[:int(turn[6])%(len(b)+1)])
	}
}

// P8.2: a range may be left off behind any layer, and begins anew, however often.
func TestLayersLeftOff(t *testing.T) {
	for _, p := range outers() {
		all := frame.Layers(p.frame())
		want := strings.Fields(p.all())
		for stop := 1; stop <= len(want)/2; stop++ {
			var got []string
			for name, at := range all {
				got = append(got, name, fmt.Sprint(at))
				if len(got) == 2*stop {
					break
				}
			}
			if !slices.Equal(got, want[:2*stop]) {
				t.Errorf("left off behind %d: got %v, want %v", stop, got, want[:2*stop])
			}
		}
		for range 2 {
			n := 0
			all(func(string, int) bool { n++; return true })
			if n != len(want)/2 {
				t.Errorf("%d layers, want %v", n, want)
			}
		}
		n := 0
		for outer := range all {
			for inner := range all {
				if inner == outer {
					n++
				}
			}
		}
		if n != len(want)/2 {
			t.Errorf("one within the other: %d layers are the same, want %v", n, want)
		}
	}
	for range frame.Layers(nil) {
		t.Error("a layer of no bytes")
	}
}

// P8.3: nothing is kept: a range tells what was handed in, whatever became of it; and an answer hangs on the bytes alone.
func TestNotKept(t *testing.T) {
	list := outers()
	for i, p := range list {
		b := p.frame()
		all := frame.Layers(b)
		v, _ := frame.Read(b)
		clear(b[:cap(b)])
		checkReason(t, b, api.NotIP, "ether 0")
		var got []string
		for name, at := range all {
			got = append(got, fmt.Sprintf("%s %d", name, at))
			clear(b)
		}
		if strings.Join(got, " ") != p.all() || v != p.view() {
			t.Errorf("of a frame that is another one now: %v, %v; want %q, %v", got, v, p.all(), p.view())
		}
		q := list[len(list)-1-i]
		b = append(b[:0], q.frame()...)
		checkGood(t, b, q)
		checkGood(t, p.frame(), p)
	}
	b := list[0].frame()
	all := frame.Layers(b)
	for name := range all {
		if name == "ether" {
			copy(b, list[3].frame())
		}
	}
	n := 0
	for range all {
		n++
	}
	if n != 3 {
		t.Errorf("%d layers of a frame that was changed meanwhile, want 3", n)
	}
}
