package addr_test

import (
	"bytes"
	"net/netip"
	"regexp"
	"slices"
	"strings"
	"testing"

	"bazaar/addr"
	"bazaar/api"
)

// six is the address of V6 of these bytes.
func six(b [16]byte) api.Addr {
	return api.Addr{V6: true, B: b}
}

// full is sixteen bytes 255.
func full() (b [16]byte) {
	for i := range b {
		b[i] = 255
	}
	return b
}

// rising is the bytes 1, 2, .. 16.
func rising() (b [16]byte) {
	for i := range b {
		b[i] = byte(i + 1)
	}
	return b
}

// valid is Valid ones, as Cmp has them: rising.
func valid() []api.Addr {
	return []api.Addr{
		{}, addr.V4(0, 0, 0, 1), addr.V4(0, 0, 1, 0), addr.V4(1, 2, 3, 4), addr.V4(9, 10, 99, 100), addr.V4(10, 0, 0, 1),
		addr.V4(127, 255, 255, 255), addr.V4(128, 0, 0, 0), addr.V4(255, 255, 255, 255),
		{V6: true}, six([16]byte{15: 1}), six([16]byte{14: 1}), six([16]byte{1, 2, 3, 4}), six(rising()), six([16]byte{10, 0, 0, 1}),
		six([16]byte{0x20, 1, 0x0d, 0xb8}), six([16]byte{0x20, 1, 0x0d, 0xb8, 15: 1}), six([16]byte{0x7f, 15: 0xff}), six([16]byte{0x80}), six(full()),
	}
}

// P2.1: of IPv4 the last twelve bytes are 0, each of them; of V6 any bytes.
func TestValid(t *testing.T) {
	for _, a := range valid() {
		if !addr.Valid(a) {
			t.Errorf("%v is not Valid", a)
		}
	}
	for i := range 16 {
		for _, n := range []byte{1, 0x80, 0xff} {
			a := api.Addr{}
			a.B[i] = n
			if got, want := addr.Valid(a), i < 4; got != want {
				t.Errorf("Valid of IPv4 with %d at %d: %v", n, i, got)
			}
			a.V6 = true
			if !addr.Valid(a) {
				t.Errorf("V6 with %d at %d is not Valid", n, i)
			}
		}
	}
	for _, b := range [][16]byte{full(), rising()} {
		if addr.Valid(api.Addr{B: b}) || !addr.Valid(api.Addr{V6: true, B: b}) {
			t.Errorf("Valid of %v", b)
		}
	}
}

// P2.1: the four bytes in order, and nothing behind.
func TestV4(t *testing.T) {
	if got, want := addr.V4(1, 2, 3, 4), (api.Addr{B: [16]byte{1, 2, 3, 4}}); got != want {
		t.Errorf("got %v, want %v", got, want)
	}
	if got, want := addr.V4(255, 255, 255, 255), (api.Addr{B: [16]byte{255, 255, 255, 255}}); got != want {
		t.Errorf("got %v, want %v", got, want)
	}
	if got := addr.V4(0, 0, 0, 0); got != (api.Addr{}) {
		t.Errorf("got %v", got)
	}
}

// P2.1: the first four of IPv4, also where it is not Valid; all sixteen of V6.
func TestBytes(t *testing.T) {
	for _, c := range []struct {
		a    api.Addr
		want []byte
	}{
		{api.Addr{}, make([]byte, 4)},
		{api.Addr{V6: true}, make([]byte, 16)},
		{addr.V4(10, 0, 255, 1), []byte{10, 0, 255, 1}},
		{addr.V4(255, 255, 255, 255), []byte{255, 255, 255, 255}},
		{six(rising()), []byte{1, 2, 3, 4, 5, 6, 7, 8, 9, 10, 11, 12, 13, 14, 15, 16}},
		{six(full()), bytes.Repeat([]byte{255}, 16)},
		{six([16]byte{1, 2, 3, 4}), []byte{1, 2, 3, 4, 0, 0, 0, 0, 0, 0, 0, 0, 0, 0, 0, 0}},
		{api.Addr{B: rising()}, []byte{1, 2, 3, 4}},
		{api.Addr{B: full()}, []byte{255, 255, 255, 255}},
	} {
		if got := addr.Bytes(c.a); !bytes.Equal(got, c.want) {
			t.Errorf("Bytes(%v) = %v; want %v", c.a, got, c.want)
		}
	}
}

// P2.1: what is answered is new memory, each time.
func TestBytesNew(t *testing.T) {
	for _, a := range valid() {
		was := a
		one, two := addr.Bytes(a), addr.Bytes(a)
		for i := range one {
			one[i]++
		}
		clear(one[len(one):cap(one)])
		if a != was || !bytes.Equal(two, addr.Bytes(was)) {
			t.Errorf("Bytes(%v) shares memory: %v, %v", was, a, two)
		}
	}
}

// P2.1: of four bytes IPv4, of sixteen V6, whatever they are.
func TestFrom(t *testing.T) {
	all := rising()
	for _, c := range []struct {
		b    []byte
		want api.Addr
	}{
		{make([]byte, 4), api.Addr{}},
		{make([]byte, 16), api.Addr{V6: true}},
		{[]byte{10, 0, 255, 1}, addr.V4(10, 0, 255, 1)},
		{bytes.Repeat([]byte{255}, 4), addr.V4(255, 255, 255, 255)},
		{bytes.Repeat([]byte{255}, 16), six(full())},
		{all[:], six(rising())},
		{all[:4], addr.V4(1, 2, 3, 4)}, // spare room is none of it
	} {
		got, e := addr.From(c.b)
		if got != c.want || e != api.OK {
			t.Errorf("From(%v) = %v, %v; want %v", c.b, got, e, c.want)
		}
	}
	if all != rising() {
		t.Errorf("From has changed what was handed in: %v", all)
	}
}

// P2.1: ErrBad, with no address, of any other number of bytes.
func TestFromOther(t *testing.T) {
	row := bytes.Repeat([]byte{7}, 300)
	for n := range len(row) {
		if n == 4 || n == 16 {
			continue
		}
		if got, e := addr.From(row[:n]); got != (api.Addr{}) || e != api.ErrBad {
			t.Errorf("From of %d bytes = %v, %v", n, got, e)
		}
	}
	if got, e := addr.From(nil); got != (api.Addr{}) || e != api.ErrBad {
		t.Errorf("From(nil) = %v, %v", got, e)
	}
}

// P2.1: what is handed in is not kept.
func TestFromNotKept(t *testing.T) {
	for _, n := range []int{4, 16} {
		b := bytes.Repeat([]byte{7}, n)
		a, _ := addr.From(b)
		clear(b)
		if got := addr.Bytes(a); !bytes.Equal(got, bytes.Repeat([]byte{7}, n)) {
			t.Errorf("of %d bytes: %v", n, got)
		}
	}
}

// P2.1: IPv4 ahead of V6, then by the bytes, the first one that differs.
func TestCmp(t *testing.T) {
	row := valid()
	for i, a := range row {
		for j, b := range row {
			want := 0
			if i < j {
				want = -1
			}
			if i > j {
				want = 1
			}
			if got := addr.Cmp(a, b); got != want {
				t.Errorf("Cmp(%v, %v) = %d; want %d", a, b, got, want)
			}
		}
	}
}

// P2.1: of different kinds with the same bytes IPv4 is ahead.
func TestCmpKinds(t *testing.T) {
	for _, b := range [][16]byte{{}, {1, 2, 3, 4}, rising(), full()} {
		four, v6 := api.Addr{B: b}, api.Addr{V6: true, B: b}
		if addr.Cmp(four, v6) != -1 || addr.Cmp(v6, four) != 1 {
			t.Errorf("Cmp of %v: %d, %d", b, addr.Cmp(four, v6), addr.Cmp(v6, four))
		}
	}
}

// P2.1: each of the sixteen bytes counts, of one that is not Valid too, and as a number from 0 to 255.
func TestCmpEachByte(t *testing.T) {
	for _, kind := range []bool{false, true} {
		for i := range 16 {
			less, more := api.Addr{V6: kind, B: rising()}, api.Addr{V6: kind, B: rising()}
			less.B[i], more.B[i] = 0x7f, 0x80
			for j := i + 1; j < 16; j++ { // what is behind it says nothing
				less.B[j] = 255
			}
			if addr.Cmp(less, more) != -1 || addr.Cmp(more, less) != 1 || addr.Cmp(less, less) != 0 {
				t.Errorf("Cmp by byte %d, V6 %v", i, kind)
			}
		}
	}
}

// pairs is addresses and their texts.
func pairs() map[string]api.Addr {
	return map[string]api.Addr{
		"0.0.0.0":         {},
		"10.0.0.1":        addr.V4(10, 0, 0, 1),
		"10.0.255.1":      addr.V4(10, 0, 255, 1),
		"1.22.133.9":      addr.V4(1, 22, 133, 9),
		"99.100.199.200":  addr.V4(99, 100, 199, 200),
		"255.255.255.255": addr.V4(255, 255, 255, 255),
		"0000:0000:0000:0000:0000:0000:0000:0000": {V6: true},
		"ffff:ffff:ffff:ffff:ffff:ffff:ffff:ffff": six(full()),
		"0102:0304:0506:0708:090a:0b0c:0d0e:0f10": six(rising()),
		"2001:0db8:0000:0000:ff00:0000:0000:0001": six([16]byte{0x20, 1, 0x0d, 0xb8, 0, 0, 0, 0, 0xff, 15: 1}),
		"fedc:ba98:7654:3210:0123:4567:89ab:cdef": six([16]byte{0xfe, 0xdc, 0xba, 0x98, 0x76, 0x54, 0x32, 0x10, 1, 0x23, 0x45, 0x67, 0x89, 0xab, 0xcd, 0xef}),
		"0a00:0001:0000:0000:0000:0000:0000:0000": six([16]byte{10, 0, 0, 1}),
	}
}

// P2.2: the texts, letter by letter, and back.
func TestText(t *testing.T) {
	for s, a := range pairs() {
		if got := addr.Text(a); got != s {
			t.Errorf("Text(%v) = %q; want %q", a, got, s)
		}
		if got, e := addr.Parse(s); got != a || e != api.OK {
			t.Errorf("Parse(%q) = %v, %v; want %v", s, got, e, a)
		}
	}
}

// P2.2: of IPv4 that is not Valid: its four numbers, too; Parse answers the Valid one.
func TestTextNotValid(t *testing.T) {
	if got := addr.Text(api.Addr{B: rising()}); got != "1.2.3.4" {
		t.Errorf("got %q", got)
	}
	if got, e := addr.Parse("1.2.3.4"); got != addr.V4(1, 2, 3, 4) || e != api.OK {
		t.Errorf("got %v, %v", got, e)
	}
}

func checkBad(t *testing.T, s string) {
	t.Helper()
	if got, e := addr.Parse(s); got != (api.Addr{}) || e != api.ErrBad {
		t.Errorf("Parse(%.60q) = %v, %v; want ErrBad", s, got, e)
	}
}

// P2.2: ErrBad, with no address, of a text that is like IPv4's, but no address's own.
func TestParseBadV4(t *testing.T) {
	for _, s := range []string{
		"", ".", "...", "1", "1.2", "1.2.3", "1.2.3.", ".1.2.3", "1..2.3", "1.2..3", "1.2.3.4.", ".1.2.3.4", "1.2.3.4.5", "1.2.3.4..",
		"256.0.0.0", "0.256.0.0", "0.0.256.0", "0.0.0.256", "0.0.0.300", "0.0.0.999", "0.0.0.1000", "0.0.0.4294967296", "0.0.0.18446744073709551616", "0.0.0.18446744073709551617",
		"01.0.0.0", "0.00.0.0", "0.0.001.0", "0.0.0.01", "0.0.0.000", "0.0.0.0255",
		"+1.0.0.0", "0.0.0.+1", "-0.0.0.0", "0.0.0.-1", "1_0.0.0.0", "0x1.0.0.0", "0b1.0.0.0", "1e1.0.0.0", "a.0.0.0", "0.0.0.f",
		" 1.2.3.4", "1.2.3.4 ", "1. 2.3.4", "1.2.3.4\n", "\t1.2.3.4", "1.2.3.4\x00", "\x001.2.3.4", "1.2.3.4/32", "1.2.3.4:80",
		"1,2,3,4", "1.2.3:4", "1:2:3:4", "1.2.3.\u0664", "\uff11.2.3.4", "\xff.2.3.4", "1\u30022\u30023\u30024", "[1.2.3.4]",
	} {
		checkBad(t, s)
	}
}

// P2.2: ErrBad, with no address, of a text that is like V6's, but no address's own.
func TestParseBadV6(t *testing.T) {
	good := "2001:0db8:0000:0000:ff00:0000:0000:0001"
	for _, s := range []string{
		":", "::", "::1", ":::::::", "1:2:3:4:5:6:7:8", "2001:db8:0000:0000:ff00:0000:0000:0001",
		"2001:0DB8:0000:0000:ff00:0000:0000:0001", "2001:0db8:0000:0000:fF00:0000:0000:0001", strings.ToUpper(good),
		good[:34], good[5:], good[:35], good[1:], good[:38], good + ":", ":" + good, good + ":0000", "0000:" + good, good + "0", "0" + good,
		"2001:0db8:0000:0000:ff00:0000:0000:000g", "2001:0db8:0000:0000:ff00:0000:0000:000/", "2001:0db8:0000:0000:ff00:0000:0000:000`",
		"+001:0db8:0000:0000:ff00:0000:0000:0001", "-001:0db8:0000:0000:ff00:0000:0000:0001", "0x01:0db8:0000:0000:ff00:0000:0000:0001", "2_01:0db8:0000:0000:ff00:0000:0000:0001",
		" " + good, good + " ", good + "\n", good + "\x00", good + "%1", "[" + good + "]", " 001:0db8:0000:0000:ff00:0000:0000:0001", "2001:0db8:0000:0000:ff00:0000:0000:000\n",
		"20010:db8:0000:0000:ff00:0000:0000:0001", "200:10db8:0000:0000:ff00:0000:0000:0001", "2001::db8:0000:0000:ff00:0000:0000:0001",
		strings.ReplaceAll(good, ":", "."), strings.ReplaceAll(good, ":", "-"), strings.ReplaceAll(good, ":", ""), strings.Replace(good, ":0001", ".0001", 1),
		"0000:0000:0000:0000:0000:ffff:1.2.3.4", "0000:0000:0000:0000:0000:0000:127.0.0.1", "2001:0db8:0000:0000:ff00:0000:0000:00\u00e9", "2001:0db8:0000:0000:ff00:0000:0000:000\xff",
	} {
		checkBad(t, s)
	}
	for i, c := range []byte(good) {
		if c == ':' {
			checkBad(t, good[:i]+"0"+good[i+1:])
		} else {
			checkBad(t, good[:i]+":"+good[i+1:])
		}
	}
}

// P2.2: long texts are no address's.
func TestParseLong(t *testing.T) {
	for _, s := range []string{"0", "1", ".", ":", "0.", "0000:", "1.2.3.4", "ff", "\xff", "\u30c4"} {
		checkBad(t, strings.Repeat(s, 100000))
		checkBad(t, "1.2.3."+strings.Repeat(s, 100000))
	}
}

// checkText holds Parse of s against what the texts look like, as told in another way.
func checkText(t *testing.T, own *regexp.Regexp, s string) {
	t.Helper()
	if !own.MatchString(s) {
		checkBad(t, s)
		return
	}
	want := netip.MustParseAddr(s)
	got, e := addr.Parse(s)
	if e != api.OK || got.V6 != want.Is6() || !addr.Valid(got) || !bytes.Equal(addr.Bytes(got), want.AsSlice()) || addr.Text(got) != s {
		t.Errorf("Parse(%q) = %v, %v", s, got, e)
	}
}

// P2.2: one sign more, less, or another: what is then an address's own text is read, nothing else is.
func TestParseNear(t *testing.T) {
	byteText := `(0|[1-9][0-9]?|1[0-9][0-9]|2[0-4][0-9]|25[0-5])`
	own := regexp.MustCompile(`\A(` + byteText + `(\.` + byteText + `){3}|[0-9a-f]{4}(:[0-9a-f]{4}){7})\z`)
	signs := []byte("0123456789abcdefgAFG.:+-_/ \n\x00\x7f\xff")
	for s := range pairs() {
		for i := range len(s) + 1 {
			for _, c := range signs {
				checkText(t, own, s[:i]+string([]byte{c})+s[i:])
				if i < len(s) {
					checkText(t, own, s[:i]+string([]byte{c})+s[i+1:])
				}
			}
			if i < len(s) {
				checkText(t, own, s[:i]+s[i+1:])
			}
		}
	}
}

// P2.2: each byte in decimal, and as two signs.
func TestTextEachByte(t *testing.T) {
	for n := range 256 {
		for i := range 4 {
			a := api.Addr{}
			a.B[i] = byte(n)
			checkRound(t, a, netip.AddrFrom4([4]byte(a.B[:4])).StringExpanded())
		}
		for i := range 16 {
			a := api.Addr{V6: true}
			a.B[i] = byte(n)
			checkRound(t, a, netip.AddrFrom16(a.B).StringExpanded())
		}
	}
}

// checkRound: Parse of Text, and From of Bytes, are a; its Text is want.
func checkRound(t *testing.T, a api.Addr, want string) {
	t.Helper()
	text := addr.Text(a)
	if text != want {
		t.Errorf("Text(%v) = %q; want %q", a, text, want)
	}
	if got, e := addr.Parse(text); got != a || e != api.OK {
		t.Errorf("Parse(%q) = %v, %v; want %v", text, got, e, a)
	}
	if got, e := addr.From(addr.Bytes(a)); got != a || e != api.OK {
		t.Errorf("From(Bytes(%v)) = %v, %v", a, got, e)
	}
}

// P2.3: whatever the bytes, Parse of Text, and From of Bytes, are the same one again.
func TestRound(t *testing.T) {
	for _, a := range valid() {
		checkRound(t, a, addr.Text(a))
	}
	n := uint32(1)
	for range 2000 {
		a := api.Addr{V6: true}
		for i := range a.B {
			n = n*1664525 + 1013904223
			a.B[i] = byte(n >> 24)
		}
		checkRound(t, a, netip.AddrFrom16(a.B).StringExpanded())
		four := [4]byte(a.B[:4])
		checkRound(t, addr.V4(four[0], four[1], four[2], four[3]), netip.AddrFrom4(four).StringExpanded())
	}
}

// P2.3: of an address that is not Valid another one comes back: the Valid one of its four bytes.
func TestRoundNotValid(t *testing.T) {
	for _, b := range [][16]byte{rising(), full(), {15: 1}, {4: 1}} {
		a := api.Addr{B: b}
		want := addr.V4(b[0], b[1], b[2], b[3])
		if got, e := addr.Parse(addr.Text(a)); got != want || e != api.OK {
			t.Errorf("Parse(Text(%v)) = %v, %v", a, got, e)
		}
		if got, e := addr.From(addr.Bytes(a)); got != want || e != api.OK {
			t.Errorf("From(Bytes(%v)) = %v, %v", a, got, e)
		}
	}
}

// P2.1: sorted by Cmp, addresses of both kinds stand rising.
func TestCmpSorts(t *testing.T) {
	row := valid()
	slices.Reverse(row)
	slices.SortFunc(row, addr.Cmp)
	if !slices.Equal(row, valid()) {
		t.Errorf("got %v", row)
	}
}
