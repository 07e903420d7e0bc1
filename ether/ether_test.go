package ether_test

import (
	"bytes"
	"math"
	"slices"
	"testing"

	"bazaar/api"
	"bazaar/ether"
)

// The constants fit all kinds of numbers.
const (
	ipv4 uint16 = ether.IPv4
	ipv6 uint16 = ether.IPv6
	vlan uint16 = ether.VLAN
	arp  uint16 = 0x0806
)

// found is what Net answers.
type found struct {
	at     int
	kind   uint16
	reason int
}

// row is n bytes, none of them 0, of which no two neighbours are the same.
func row(n int) []byte {
	b := make([]byte, n)
	for i := range b {
		b[i] = byte(i%250 + 3)
	}
	return b
}

// pair is a kind's bytes.
func pair(kind uint16) []byte {
	return []byte{byte(kind >> 8), byte(kind)}
}

// plain is a frame with no tag, and n bytes behind.
func plain(kind uint16, n int) []byte {
	return slices.Concat(row(12), pair(kind), row(n))
}

// tagged is a frame with one tag, whose number is id, and n bytes behind.
func tagged(id, kind uint16, n int) []byte {
	return slices.Concat(row(12), pair(vlan), pair(id), pair(kind), row(n))
}

// held calls do, and holds all of b's memory against what it was.
func held(t *testing.T, what string, b []byte, do func()) {
	t.Helper()
	was := bytes.Clone(b[:cap(b)])
	do()
	if !bytes.Equal(b[:cap(b)], was) {
		t.Errorf("%s has changed what was handed in, or its spare room:\n got %v\n was %v", what, b[:cap(b)], was)
	}
}

func checkNet(t *testing.T, b []byte, want found) {
	t.Helper()
	var got found
	held(t, "Net", b, func() { got.at, got.kind, got.reason = ether.Net(b) })
	if got != want {
		t.Errorf("Net of %d bytes (%.24v ..) = %v; want %v", len(b), b, got, want)
	}
}

func checkWith(t *testing.T, b []byte, kind uint16, want []byte) {
	t.Helper()
	var got []byte
	held(t, "With", b, func() { got = ether.With(b, kind) })
	if !bytes.Equal(got, want) {
		t.Errorf("With of %d bytes (%.24v ..) and %#04x:\n got %v\nwant %v", len(b), b, kind, got, want)
	}
}

// P4.1: the numbers of what follows.
func TestKinds(t *testing.T) {
	if ipv4 != 0x0800 || ipv6 != 0x86dd || vlan != 0x8100 {
		t.Errorf("got %#x, %#x, %#x", ipv4, ipv6, vlan)
	}
}

// P4.1: at 12 stands what follows; behind it is the place.
func TestNet(t *testing.T) {
	for _, n := range []int{0, 1, 2, 3, 4, 5, 20, 46, 1500} {
		checkNet(t, plain(ipv4, n), found{at: 14, kind: ipv4})
		checkNet(t, plain(ipv6, n), found{at: 14, kind: ipv6})
		checkNet(t, plain(arp, n), found{reason: api.NotIP})
	}
	checkNet(t, append(make([]byte, 12), 8, 0), found{at: 14, kind: ipv4})
	checkNet(t, append(bytes.Repeat([]byte{255}, 12), 0x86, 0xdd), found{at: 14, kind: ipv6})
}

// P4.1: of VLAN the last two of four bytes more say it, whatever the tag's number is.
func TestNetTagged(t *testing.T) {
	for _, id := range []uint16{0, 1, 0x0102, 0xe005, 0xffff, ipv4, ipv6, vlan, arp} {
		for _, n := range []int{0, 1, 2, 3, 4, 20, 1500} {
			checkNet(t, tagged(id, ipv4, n), found{at: 18, kind: ipv4})
			checkNet(t, tagged(id, ipv6, n), found{at: 18, kind: ipv6})
			checkNet(t, tagged(id, arp, n), found{reason: api.NotIP})
		}
	}
}

// P4.1: one tag alone: a tag behind a tag is NotIP, whatever stands behind that, also where nothing does.
func TestNetTwoTags(t *testing.T) {
	for _, kind := range []uint16{ipv4, ipv6, vlan, arp} {
		for _, n := range []int{0, 1, 20} {
			b := slices.Concat(row(12), pair(vlan), pair(1), pair(vlan), pair(2), pair(kind), row(n))
			checkNet(t, b, found{reason: api.NotIP})
			checkWith(t, b, ipv4, nil)
		}
	}
	for n := range 5 {
		checkNet(t, tagged(1, vlan, n), found{reason: api.NotIP})
	}
}

// P4.1: of all the numbers two alone are IP, and one is a tag.
func TestNetEachKind(t *testing.T) {
	for i := range math.MaxUint16 + 1 {
		kind := uint16(i)
		bare, behind := found{reason: api.NotIP}, found{reason: api.NotIP}
		if kind == ipv4 || kind == ipv6 {
			bare, behind = found{at: 14, kind: kind}, found{at: 18, kind: kind}
		}
		checkNet(t, tagged(7, kind, 3), behind)
		if kind != vlan {
			checkNet(t, plain(kind, 3), bare)
		}
	}
}

// P4.1: Short, if b ends ahead of the place, whatever there is of it, and whatever is in the spare room.
func TestNetShort(t *testing.T) {
	for _, c := range []struct {
		b    []byte
		want found
	}{
		{plain(ipv4, 6), found{at: 14, kind: ipv4}},
		{plain(ipv6, 6), found{at: 14, kind: ipv6}},
		{plain(arp, 6), found{reason: api.NotIP}},
		{plain(0x88a8, 6), found{reason: api.NotIP}},
		{tagged(1, ipv4, 6), found{at: 18, kind: ipv4}},
		{tagged(1, ipv6, 6), found{at: 18, kind: ipv6}},
		{tagged(1, arp, 6), found{reason: api.NotIP}},
		{tagged(1, vlan, 6), found{reason: api.NotIP}},
		{tagged(ipv4, arp, 6), found{reason: api.NotIP}}, // the tag's number isn't what follows
		{tagged(ipv6, ipv4, 6), found{at: 18, kind: ipv4}},
	} {
		place := 14
		if c.b[12] == 0x81 {
			place = 18
		}
		for n := range len(c.b) + 1 {
			want := c.want
			if n < place {
				want = found{reason: api.Short}
			}
			checkNet(t, c.b[:n], want)
			checkNet(t, bytes.Clone(c.b[:n:n]), want)
			if want.reason != 0 {
				checkWith(t, c.b[:n], ipv4, nil)
			}
		}
	}
	checkNet(t, nil, found{reason: api.Short})
	checkNet(t, []byte{}, found{reason: api.Short})
	checkNet(t, []byte{8, 0}, found{reason: api.Short})
}

// P4.1: kinds that stand elsewhere, or with the low byte ahead, say nothing.
func TestNetElsewhere(t *testing.T) {
	for _, kind := range []uint16{ipv4, ipv6, vlan} {
		b := slices.Concat(bytes.Repeat(pair(kind), 6), pair(arp), bytes.Repeat(pair(kind), 6))
		checkNet(t, b, found{reason: api.NotIP})
		b = slices.Concat(bytes.Repeat(pair(kind), 6), pair(ipv6), bytes.Repeat(pair(kind), 6))
		checkNet(t, b, found{at: 14, kind: ipv6})
		b = slices.Concat(row(11), pair(kind), row(9))
		checkNet(t, b, found{reason: api.NotIP})
		b = slices.Concat(row(13), pair(kind), row(9))
		checkNet(t, b, found{reason: api.NotIP})
		checkNet(t, plain(kind<<8|kind>>8, 9), found{reason: api.NotIP})
	}
}

// P4.1: a long frame is as another one: too many bytes are told by others.
func TestNetLong(t *testing.T) {
	for _, n := range []int{api.MaxFrame - 18, api.MaxFrame - 14, api.MaxFrame, api.MaxFrame + 1, 1 << 20} {
		checkNet(t, plain(ipv4, n), found{at: 14, kind: ipv4})
		checkNet(t, tagged(3, ipv6, n), found{at: 18, kind: ipv6})
		checkNet(t, plain(arp, n), found{reason: api.NotIP})
		checkWith(t, plain(ipv4, n), ipv6, plain(ipv6, 0))
	}
}

// P4.2: the bytes ahead, nothing of those behind, and kind at their end, any kind.
func TestWith(t *testing.T) {
	for _, kind := range []uint16{ipv4, ipv6, vlan, arp, 0, 1, 0x0100, 0x1234, 0x00ff, 0xff00, 0xffff} {
		for _, was := range []uint16{ipv4, ipv6} {
			for _, n := range []int{0, 1, 2, 3, 4, 5, 20, 1500} {
				checkWith(t, plain(was, n), kind, plain(kind, 0))
				checkWith(t, tagged(0x0102, was, n), kind, tagged(0x0102, kind, 0))
				checkWith(t, tagged(was, was, n), kind, tagged(was, kind, 0))
			}
		}
	}
}

// P4.2: none, if Net tells a reason, whatever the kind is to be.
func TestWithNone(t *testing.T) {
	for _, b := range [][]byte{
		nil, {}, {8, 0}, row(12), row(14), row(18), row(60),
		plain(arp, 0), plain(arp, 46), plain(vlan, 0), plain(vlan, 3), plain(0, 9), plain(0xffff, 9), plain(0x88a8, 9),
		plain(ipv4, 9)[:13], plain(ipv6, 9)[:13], tagged(1, ipv4, 9)[:17], tagged(1, ipv6, 9)[:14], tagged(1, arp, 9), tagged(1, vlan, 9),
	} {
		for _, kind := range []uint16{ipv4, ipv6, vlan, 0, 0x1234, 0xffff} {
			checkWith(t, b, kind, nil)
		}
	}
}

// P4.2: what With makes is read by Net: at the same place, with its kind.
func TestNetOfWith(t *testing.T) {
	for _, b := range [][]byte{plain(ipv4, 5), plain(ipv6, 5), tagged(9, ipv4, 5), tagged(9, ipv6, 0)} {
		at, was, _ := ether.Net(b)
		for _, kind := range []uint16{ipv4, ipv6} {
			checkNet(t, ether.With(b, kind), found{at: at, kind: kind})
		}
		checkNet(t, ether.With(b, arp), found{reason: api.NotIP})
		checkWith(t, b, was, b[:at])
		checkWith(t, ether.With(b, 0x86dd), was, b[:at])
	}
}

// P4.3: what is answered shares no memory with what was handed in, nor with another answer, with spare room and without.
func TestNew(t *testing.T) {
	for _, b := range [][]byte{plain(ipv4, 0), plain(ipv6, 40), tagged(9, ipv4, 0), tagged(9, ipv6, 40), plain(ipv4, 40)[:14], tagged(9, ipv4, 40)[:18:30]} {
		at, was, _ := ether.Net(b)
		one, two := ether.With(b, was), ether.With(b, was)
		held(t, "a change of what is answered", b, func() {
			for i := range one {
				one[i]++
			}
			clear(one[len(one):cap(one)])
		})
		if !bytes.Equal(two, b[:at]) {
			t.Errorf("two answers share memory: %v", two)
		}
		want := bytes.Clone(two)
		clear(b[:cap(b)])
		if !bytes.Equal(two, want) {
			t.Errorf("what is answered shares memory with what was handed in: %v, was %v", two, want)
		}
	}
}

// P4.3: nothing is kept: an answer hangs on the bytes alone, whatever was asked ahead of it.
func TestNotKept(t *testing.T) {
	b := tagged(9, ipv6, 4)
	checkNet(t, b, found{at: 18, kind: ipv6})
	checkWith(t, b, ipv4, tagged(9, ipv4, 0))
	copy(b, plain(ipv4, 0))
	checkNet(t, b, found{at: 14, kind: ipv4})
	checkWith(t, b, ipv6, plain(ipv6, 0))
	copy(b, plain(arp, 0))
	checkNet(t, b, found{reason: api.NotIP})
	checkWith(t, b, ipv6, nil)
	copy(b, tagged(8, ipv4, 0))
	checkNet(t, b, found{at: 18, kind: ipv4})
	checkWith(t, b, ipv6, tagged(8, ipv6, 0))
}
