package key_test

import (
	"bytes"
	"slices"
	"strings"
	"testing"

	"bazaar/addr"
	"bazaar/api"
	"bazaar/key"
)

var (
	here4  = addr.V4(10, 0, 0, 1)
	there4 = addr.V4(192, 168, 200, 255)
	here6  = api.Addr{V6: true, B: [16]byte{0x20, 1, 0x0d, 0xb8, 5, 6, 7, 8, 9, 10, 11, 12, 13, 14, 15, 16}}
	there6 = api.Addr{V6: true, B: [16]byte{0xfd, 200, 199, 198, 197, 196, 195, 194, 193, 192, 191, 190, 189, 188, 187, 255}}
)

// sample is a flow, with its bytes, its text and its VIP.
type sample struct {
	k    api.Key
	row  []byte
	text string
	vip  api.Vip
}

// samples is Valid ones, as Cmp has them: rising.
func samples() []sample {
	all := api.Addr{V6: true, B: [16]byte(bytes.Repeat([]byte{255}, 16))}
	return []sample{
		{
			api.Key{Proto: api.TCP},
			[]byte{6, 4, 0, 0, 0, 0, 0, 0, 0, 0, 0, 0, 0, 0},
			"tcp 0.0.0.0:0 > 0.0.0.0:0",
			api.Vip{Proto: 6},
		},
		{
			api.Key{Proto: api.TCP, Src: addr.V4(10, 0, 0, 1), Dst: addr.V4(10, 0, 0, 2), SrcPort: 80, DstPort: 90},
			[]byte{6, 4, 10, 0, 0, 1, 10, 0, 0, 2, 0, 80, 0, 90},
			"tcp 10.0.0.1:80 > 10.0.0.2:90",
			api.Vip{Proto: 6, Addr: addr.V4(10, 0, 0, 2), Port: 90},
		},
		{
			api.Key{Proto: api.TCP, Src: here4, Dst: there4, SrcPort: 7, DstPort: 12345},
			[]byte{6, 4, 10, 0, 0, 1, 192, 168, 200, 255, 0, 7, 0x30, 0x39},
			"tcp 10.0.0.1:7 > 192.168.200.255:12345",
			api.Vip{Proto: 6, Addr: there4, Port: 12345},
		},
		{
			api.Key{Proto: api.TCP, Src: here6, Dst: there6, SrcPort: 0x1234, DstPort: 5},
			[]byte{6, 6, 0x20, 1, 0x0d, 0xb8, 5, 6, 7, 8, 9, 10, 11, 12, 13, 14, 15, 16, 0xfd, 200, 199, 198, 197, 196, 195, 194, 193, 192, 191, 190, 189, 188, 187, 255, 0x12, 0x34, 0, 5},
			"tcp 2001:0db8:0506:0708:090a:0b0c:0d0e:0f10:4660 > fdc8:c7c6:c5c4:c3c2:c1c0:bfbe:bdbc:bbff:5",
			api.Vip{Proto: 6, Addr: there6, Port: 5},
		},
		{
			api.Key{Proto: api.UDP, Src: there4, Dst: here4, SrcPort: 0, DstPort: 65535},
			[]byte{17, 4, 192, 168, 200, 255, 10, 0, 0, 1, 0, 0, 255, 255},
			"udp 192.168.200.255:0 > 10.0.0.1:65535",
			api.Vip{Proto: 17, Addr: here4, Port: 65535},
		},
		{
			api.Key{Proto: api.UDP, Src: there4, Dst: here4, SrcPort: 65535, DstPort: 0},
			[]byte{17, 4, 192, 168, 200, 255, 10, 0, 0, 1, 255, 255, 0, 0},
			"udp 192.168.200.255:65535 > 10.0.0.1:0",
			api.Vip{Proto: 17, Addr: here4},
		},
		{
			api.Key{Proto: api.UDP, Src: addr.V4(255, 255, 255, 255), Dst: addr.V4(255, 255, 255, 255), SrcPort: 65535, DstPort: 65535},
			[]byte{17, 4, 255, 255, 255, 255, 255, 255, 255, 255, 255, 255, 255, 255},
			"udp 255.255.255.255:65535 > 255.255.255.255:65535",
			api.Vip{Proto: 17, Addr: addr.V4(255, 255, 255, 255), Port: 65535},
		},
		{
			api.Key{Proto: api.UDP, Src: api.Addr{V6: true}, Dst: api.Addr{V6: true, B: [16]byte{10, 0, 0, 1}}, SrcPort: 9, DstPort: 54321},
			[]byte{17, 6, 0, 0, 0, 0, 0, 0, 0, 0, 0, 0, 0, 0, 0, 0, 0, 0, 10, 0, 0, 1, 0, 0, 0, 0, 0, 0, 0, 0, 0, 0, 0, 0, 0, 9, 0xd4, 0x31},
			"udp 0000:0000:0000:0000:0000:0000:0000:0000:9 > 0a00:0001:0000:0000:0000:0000:0000:0000:54321",
			api.Vip{Proto: 17, Addr: api.Addr{V6: true, B: [16]byte{10, 0, 0, 1}}, Port: 54321},
		},
		{
			api.Key{Proto: api.UDP, Src: all, Dst: here6, SrcPort: 256, DstPort: 255},
			[]byte{17, 6, 255, 255, 255, 255, 255, 255, 255, 255, 255, 255, 255, 255, 255, 255, 255, 255, 0x20, 1, 0x0d, 0xb8, 5, 6, 7, 8, 9, 10, 11, 12, 13, 14, 15, 16, 1, 0, 0, 255},
			"udp ffff:ffff:ffff:ffff:ffff:ffff:ffff:ffff:256 > 2001:0db8:0506:0708:090a:0b0c:0d0e:0f10:255",
			api.Vip{Proto: 17, Addr: here6, Port: 255},
		},
	}
}

// four is a flow of IPv4, six one of IPv6, both Valid.
func four() api.Key {
	return api.Key{Proto: api.TCP, Src: here4, Dst: there4, SrcPort: 0x1234, DstPort: 80}
}

func six() api.Key {
	return api.Key{Proto: api.UDP, Src: here6, Dst: there6, SrcPort: 53, DstPort: 0xff01}
}

// with is k changed.
func with(k api.Key, change func(k *api.Key)) api.Key {
	change(&k)
	return k
}

// notValid is flows each of which one thing alone, or more, keeps from being Valid.
func notValid() []api.Key {
	out := []api.Key{{}, {Src: api.Addr{V6: true}, Dst: api.Addr{V6: true}}}
	for _, k := range []api.Key{four(), six()} {
		for proto := range 256 {
			if proto != 6 && proto != 17 {
				out = append(out, with(k, func(k *api.Key) { k.Proto = byte(proto) }))
			}
		}
		out = append(out, with(k, func(k *api.Key) { k.Src.V6 = !k.Src.V6 }), with(k, func(k *api.Key) { k.Dst.V6 = !k.Dst.V6 }))
	}
	for i := 4; i < 16; i++ {
		for _, n := range []byte{1, 0x80, 0xff} {
			src := with(four(), func(k *api.Key) { k.Src.B[i] = n })
			dst := with(four(), func(k *api.Key) { k.Dst.B[i] = n })
			out = append(out, src, dst, with(src, func(k *api.Key) { k.Dst.B[i] = n }))
			out = append(out, with(src, func(k *api.Key) { k.Dst = here6 }), with(dst, func(k *api.Key) { k.Src = here6 }))
		}
	}
	return append(out,
		with(four(), func(k *api.Key) { k.Src = here6 }), with(four(), func(k *api.Key) { k.Dst = there6 }),
		with(six(), func(k *api.Key) { k.Src = here4 }), with(six(), func(k *api.Key) { k.Dst = there4 }),
		with(four(), func(k *api.Key) { k.Src = api.Addr{V6: true} }), with(six(), func(k *api.Key) { k.Dst = api.Addr{} }),
		with(six(), func(k *api.Key) { k.Src.V6, k.Dst.V6 = false, false }),
	)
}

// P11.1: TCP and UDP, of IPv4 and of IPv6, whatever the ports.
func TestValid(t *testing.T) {
	for _, s := range samples() {
		if !key.Valid(s.k) {
			t.Errorf("%v is not Valid", s.k)
		}
	}
}

// P11.1: neither another protocol, nor an address that is not Valid, nor two of which one is of another kind.
func TestNotValid(t *testing.T) {
	for _, k := range notValid() {
		if key.Valid(k) {
			t.Errorf("%v is Valid", k)
		}
	}
}

// P11.1: of an address of IPv4 the first four bytes, of one of IPv6 all sixteen may be any.
func TestValidEachByte(t *testing.T) {
	for i := range 16 {
		for n := range 256 {
			for _, k := range []api.Key{four(), six()} {
				src := with(k, func(k *api.Key) { k.Src.B[i] = byte(n) })
				dst := with(k, func(k *api.Key) { k.Dst.B[i] = byte(n) })
				want := k.Src.V6 || i < 4 || n == 0
				if key.Valid(src) != want || key.Valid(dst) != want {
					t.Errorf("Valid of %v, %v; want %v", src, dst, want)
				}
			}
		}
	}
}

// P11.1: the protocol, the kind, both addresses, both ports, byte by byte.
func TestBytes(t *testing.T) {
	for _, s := range samples() {
		if got := key.Bytes(s.k); !bytes.Equal(got, s.row) {
			t.Errorf("Bytes(%v) = %v; want %v", s.k, got, s.row)
		}
	}
}

// P11.1, P11.2: of what is not Valid no bytes, and no text.
func TestNotValidHasNone(t *testing.T) {
	for _, k := range notValid() {
		if got := key.Bytes(k); len(got) != 0 {
			t.Errorf("Bytes(%v) = %v", k, got)
		}
		if got := key.Text(k); got != "" {
			t.Errorf("Text(%v) = %q", k, got)
		}
	}
}

// P11.3: what is answered is new memory, each time, and its spare room too.
func TestBytesNew(t *testing.T) {
	for _, s := range samples() {
		one, two := key.Bytes(s.k), key.Bytes(s.k)
		one = one[:cap(one)]
		for i := range one {
			one[i]++
		}
		if three := key.Bytes(s.k); !bytes.Equal(two, s.row) || !bytes.Equal(three, s.row) {
			t.Errorf("Bytes(%v) shares memory: %v, %v", s.k, two, three)
		}
	}
}

// P11.1, P11.3: From of Bytes is the flow, whatever stands in the spare room behind.
func TestFrom(t *testing.T) {
	for _, s := range samples() {
		if got, e := key.From(s.row); got != s.k || e != api.OK {
			t.Errorf("From(%v) = %v, %v; want %v", s.row, got, e, s.k)
		}
		if got, e := key.From(key.Bytes(s.k)); got != s.k || e != api.OK {
			t.Errorf("From of Bytes(%v) = %v, %v", s.k, got, e)
		}
		for _, more := range []byte{0, 4, 6, 17, 255} {
			room := slices.Concat(s.row, bytes.Repeat([]byte{more}, 40))
			if got, e := key.From(room[:len(s.row)]); got != s.k || e != api.OK {
				t.Errorf("From(%v), with spare room = %v, %v; want %v", s.row, got, e, s.k)
			}
		}
	}
}

// P11.3: each bit of a flow comes back, and is told by one bit of its bytes.
func TestFromEachBit(t *testing.T) {
	for _, k := range []api.Key{four(), six()} {
		row := key.Bytes(k)
		for i := 2; i < len(row); i++ {
			for bit := range 8 {
				b := slices.Clone(row)
				b[i] ^= 1 << bit
				got, e := key.From(b)
				if e != api.OK || got == k || !bytes.Equal(key.Bytes(got), b) {
					t.Errorf("From(%v) = %v, %v", b, got, e)
				}
				b[i] ^= 1 << bit
				if got, e := key.From(b); got != k || e != api.OK {
					t.Errorf("From(%v) = %v, %v; want %v", b, got, e, k)
				}
			}
		}
	}
}

func checkBad(t *testing.T, b []byte) {
	t.Helper()
	if got, e := key.From(b); got != (api.Key{}) || e != api.ErrBad {
		t.Errorf("From(%v) = %v, %v; want ErrBad", b, got, e)
	}
}

// P11.1: ErrBad, with no key, of no bytes, and of one byte more or less, ahead or behind.
func TestFromNear(t *testing.T) {
	checkBad(t, nil)
	checkBad(t, []byte{})
	for _, s := range samples() {
		checkBad(t, s.row[:len(s.row)-1])
		checkBad(t, s.row[1:])
		checkBad(t, slices.Concat(s.row, s.row))
		for n := range 256 {
			checkBad(t, slices.Concat(s.row, []byte{byte(n)}))
			checkBad(t, slices.Concat([]byte{byte(n)}, s.row))
		}
	}
}

// P11.1: ErrBad of each number of bytes but that of a flow of the kind told; 4 with the bytes of 6, and 6 with those of 4, among them.
func TestFromLength(t *testing.T) {
	size := map[byte]int{4: 14, 6: 38}
	for _, fill := range []byte{0, 4, 6, 17, 255} {
		for n := range 300 {
			for _, proto := range []byte{6, 17} {
				for _, kind := range []byte{4, 6} {
					b := bytes.Repeat([]byte{fill}, n)
					copy(b, []byte{proto, kind})
					if n != size[kind] {
						checkBad(t, b)
					} else if got, e := key.From(b); e != api.OK || !key.Valid(got) || !bytes.Equal(key.Bytes(got), b) {
						t.Errorf("From(%v) = %v, %v", b, got, e)
					}
				}
			}
		}
	}
	checkBad(t, append([]byte{6, 4}, make([]byte, 100000)...))
	checkBad(t, append([]byte{6, 6}, make([]byte, 100000)...))
}

// P11.1: ErrBad of any other protocol, and of any other kind.
func TestFromHead(t *testing.T) {
	for _, n := range []int{6, 10, 14, 22, 38} {
		for proto := range 256 {
			for kind := range 256 {
				b := bytes.Repeat([]byte{7}, n)
				b[0], b[1] = byte(proto), byte(kind)
				four, six := n == 14 && kind == 4, n == 38 && kind == 6
				if proto != 6 && proto != 17 || !four && !six {
					checkBad(t, b)
				} else if got, e := key.From(b); e != api.OK || got.Proto != byte(proto) || got.Src.V6 != six {
					t.Errorf("From(%v) = %v, %v", b, got, e)
				}
			}
		}
	}
}

// P11.3: what is handed in stays as it was, its spare room too, and is not kept.
func TestFromLeaves(t *testing.T) {
	for _, s := range samples() {
		room := slices.Concat(s.row, bytes.Repeat([]byte{9}, 40))
		was := slices.Clone(room)
		got, _ := key.From(room[:len(s.row)])
		key.From(room[:len(s.row)-1])
		if !bytes.Equal(room, was) {
			t.Errorf("From has changed %v to %v", was, room)
		}
		clear(room)
		if got != s.k || !bytes.Equal(key.Bytes(got), s.row) {
			t.Errorf("From(%v) was kept: %v", s.row, got)
		}
	}
}

// checkOrder holds Cmp of two against what is asked, both ways round.
func checkOrder(t *testing.T, a, b api.Key, want int) {
	t.Helper()
	if got := key.Cmp(a, b); got != want {
		t.Errorf("Cmp(%v, %v) = %d; want %d", a, b, got, want)
	}
	if got := key.Cmp(b, a); got != -want {
		t.Errorf("Cmp(%v, %v) = %d; want %d", b, a, got, -want)
	}
}

// P11.1: by the bytes as texts: the protocol, the kind, Src, Dst, Src's port, Dst's port.
func TestCmp(t *testing.T) {
	row := samples()
	for i, a := range row {
		checkOrder(t, a.k, a.k, 0)
		for _, b := range row[i+1:] {
			checkOrder(t, a.k, b.k, -1)
		}
	}
	for _, a := range row {
		for _, b := range row {
			if got, want := key.Cmp(a.k, b.k), strings.Compare(string(a.row), string(b.row)); got != want {
				t.Errorf("Cmp(%v, %v) = %d; want %d", a.k, b.k, got, want)
			}
		}
	}
}

// addrPorts is the bytes of a flow behind its head, one by one, as places where a change can be made.
func addrPorts(six bool) []func(k *api.Key, n byte) {
	size := 4
	if six {
		size = 16
	}
	var out []func(k *api.Key, n byte)
	for i := range size {
		out = append(out, func(k *api.Key, n byte) { k.Src.B[i] = n })
	}
	for i := range size {
		out = append(out, func(k *api.Key, n byte) { k.Dst.B[i] = n })
	}
	return append(out,
		func(k *api.Key, n byte) { k.SrcPort = uint16(n)<<8 | k.SrcPort&0xff },
		func(k *api.Key, n byte) { k.SrcPort = k.SrcPort&0xff00 | uint16(n) },
		func(k *api.Key, n byte) { k.DstPort = uint16(n)<<8 | k.DstPort&0xff },
		func(k *api.Key, n byte) { k.DstPort = k.DstPort&0xff00 | uint16(n) },
	)
}

// P11.1: where one byte alone differs, it says which is ahead, as a number from 0 to 255; where more do, the first one of them.
func TestCmpEachByte(t *testing.T) {
	for _, k := range []api.Key{four(), six()} {
		places := addrPorts(k.Src.V6)
		for i, put := range places {
			for _, c := range [][2]byte{{0, 1}, {1, 2}, {9, 10}, {0x7f, 0x80}, {0, 255}, {254, 255}} {
				less, more := with(k, func(k *api.Key) { put(k, c[0]) }), with(k, func(k *api.Key) { put(k, c[1]) })
				checkOrder(t, less, more, -1)
				checkOrder(t, less, less, 0)
				for _, behind := range places[i+1:] {
					behind(&less, 255)
					behind(&more, 0)
				}
				checkOrder(t, less, more, -1)
			}
		}
	}
}

// P11.1: TCP is ahead of UDP, whatever stands behind, and then IPv4 ahead of IPv6.
func TestCmpHead(t *testing.T) {
	high4, high6 := addr.V4(255, 255, 255, 255), api.Addr{V6: true, B: [16]byte(bytes.Repeat([]byte{255}, 16))}
	tcp4 := api.Key{Proto: api.TCP, Src: high4, Dst: high4, SrcPort: 65535, DstPort: 65535}
	tcp6 := api.Key{Proto: api.TCP, Src: api.Addr{V6: true}, Dst: api.Addr{V6: true}}
	high := api.Key{Proto: api.TCP, Src: high6, Dst: high6, SrcPort: 65535, DstPort: 65535}
	udp4 := api.Key{Proto: api.UDP}
	checkOrder(t, tcp4, tcp6, -1)
	checkOrder(t, tcp6, high, -1)
	checkOrder(t, high, udp4, -1)
	checkOrder(t, tcp4, udp4, -1)
	for _, k := range []api.Key{four(), six()} {
		tcp, udp := with(k, func(k *api.Key) { k.Proto = api.TCP }), with(k, func(k *api.Key) { k.Proto = api.UDP })
		checkOrder(t, tcp, udp, -1)
	}
}

// P11.1: what is not Valid has no bytes: it is no other than the next one of that kind, and ahead of each Valid one, as no text is.
func TestCmpNotValid(t *testing.T) {
	none := notValid()
	for i, a := range none {
		checkOrder(t, a, none[0], 0)
		checkOrder(t, a, none[(i+1)%len(none)], 0)
		for _, s := range samples() {
			checkOrder(t, a, s.k, -1)
		}
	}
}

// P11.2: the protocol, Dst and its port.
func TestVip(t *testing.T) {
	for _, s := range samples() {
		if got := key.Vip(s.k); got != s.vip {
			t.Errorf("Vip(%v) = %v; want %v", s.k, got, s.vip)
		}
		other := with(s.k, func(k *api.Key) { k.Src.B[0], k.SrcPort = k.Src.B[0]+1, k.SrcPort+1 })
		if got := key.Vip(other); got != s.vip {
			t.Errorf("Vip(%v) = %v; want %v", other, got, s.vip)
		}
	}
}

// P11.2: the same three, as they stand, of what is not Valid.
func TestVipNotValid(t *testing.T) {
	for _, k := range notValid() {
		if got, want := key.Vip(k), (api.Vip{Proto: k.Proto, Addr: k.Dst, Port: k.DstPort}); got != want {
			t.Errorf("Vip(%v) = %v; want %v", k, got, want)
		}
	}
}

// P11.2: the texts, letter by letter.
func TestText(t *testing.T) {
	for _, s := range samples() {
		if got := key.Text(s.k); got != s.text {
			t.Errorf("Text(%v) = %q; want %q", s.k, got, s.text)
		}
	}
}

// P11.2: each port in decimal, without noughts ahead, on its own side.
func TestTextPorts(t *testing.T) {
	for port, text := range map[uint16]string{0: "0", 9: "9", 10: "10", 99: "99", 100: "100", 999: "999", 1000: "1000", 9999: "9999", 10000: "10000", 32768: "32768", 65535: "65535"} {
		k := four()
		k.SrcPort = port
		if got, want := key.Text(k), "tcp 10.0.0.1:"+text+" > 192.168.200.255:80"; got != want {
			t.Errorf("got %q, want %q", got, want)
		}
		k.SrcPort, k.DstPort = 80, port
		if got, want := key.Text(k), "tcp 10.0.0.1:80 > 192.168.200.255:"+text; got != want {
			t.Errorf("got %q, want %q", got, want)
		}
	}
}
