package slots_test

import (
	"math"
	"slices"
	"testing"

	"bazaar/addr"
	"bazaar/api"
	"bazaar/slots"
)

// dip is one by its last byte, its name.
func dip(name byte) api.Dip { return api.Dip{Addr: addr.V4(10, 0, 0, name)} }

// member is one by its name, and its weight.
func member(name byte, weight int) api.Member { return api.Member{Dip: dip(name), Weight: weight} }

// pool is members by their weights: 1, 2, ..
func pool(weights ...int) (m []api.Member) {
	for i, weight := range weights {
		m = append(m, member(byte(i+1), weight))
	}
	return m
}

// ones is so many members, of weight 1.
func ones(n int) []api.Member { return pool(slices.Repeat([]int{1}, n)...) }

// dips is who has which, by names of one sign.
func dips(names string) (l []api.Dip) {
	for _, name := range []byte(names) {
		l = append(l, dip(name-'0'))
	}
	return l
}

// names is that read back; ? is none's.
func names(l []api.Dip) string {
	var out []byte
	for _, d := range l {
		name := d.Addr.B[3] + '0'
		if d != dip(name-'0') {
			name = '?'
		}
		out = append(out, name)
	}
	return string(out)
}

// bad is members that Check has to refuse, by why.
func bad() map[string][]api.Member {
	odd := func(at int) []api.Member {
		m := pool(1, 2, 3)
		m[at].Dip.Addr.B[15] = 1
		return m
	}
	near := pool(1, 2, 3)
	near[1].Dip = near[0].Dip
	end := pool(1, 2, 3)
	end[2].Dip = end[1].Dip
	far := ones(32)
	far[31].Dip = far[0].Dip
	six := []api.Member{{Dip: api.Dip{Addr: api.Addr{V6: true}}, Weight: 1}, member(1, 1), {Dip: api.Dip{Addr: api.Addr{V6: true}}, Weight: 2}}
	return map[string][]api.Member{
		"one more than MaxDips":           ones(33),
		"many more":                       slices.Repeat(ones(32), 100),
		"not Valid, the first":            odd(0),
		"not Valid, in the middle":        odd(1),
		"not Valid, the last":             odd(2),
		"not Valid in its fifth byte":     {{Dip: api.Dip{Addr: api.Addr{B: [16]byte{4: 1}}}, Weight: 1}},
		"twice next to each other":        near,
		"twice at the end":                end,
		"twice far apart":                 far,
		"twice of V6":                     six,
		"twice with a port":               {{Dip: api.Dip{Port: 7}, Weight: 1}, {Dip: api.Dip{Port: 7}, Weight: 1}},
		"the zero one twice":              {{Weight: 1}, {Weight: 2}},
		"weight 0":                        pool(0),
		"weight 0, the first":             pool(0, 1),
		"weight 0, the last":              pool(1, 1, 0),
		"weight 17":                       pool(17),
		"weight 17, the last":             pool(16, 17),
		"weight below 0":                  pool(1, -1),
		"weights that are 1 in all":       pool(2, -1),
		"weights that are 0 in all":       pool(1, -1, 1, -1),
		"the greatest weight":             pool(math.MaxInt),
		"the least weight":                pool(math.MinInt),
		"weights that go round":           pool(math.MaxInt, math.MaxInt, 4),
		"a weight of more digits than 16": pool(1 << 16),
		"a zero member":                   {{}},
	}
}

// good is members that Check has to take, by what they are.
func good() map[string][]api.Member {
	six := dip(1)
	six.Addr.V6 = true
	tail := api.Dip{Addr: api.Addr{V6: true, B: [16]byte{15: 1}}}
	return map[string][]api.Member{
		"one":                         pool(1),
		"weight 16":                   pool(16),
		"weights 1 to 16":             pool(1, 2, 3, 4, 5, 6, 7, 8, 9, 10, 11, 12, 13, 14, 15, 16),
		"MaxDips":                     ones(32),
		"MaxDips of MaxWeight":        pool(slices.Repeat([]int{16}, 32)...),
		"one Addr with two Ports":     {member(1, 1), {Dip: api.Dip{Addr: dip(1).Addr, Port: 5}, Weight: 1}},
		"one Addr with greater Ports": {{Dip: api.Dip{Addr: dip(1).Addr, Port: 65535}, Weight: 1}, {Dip: api.Dip{Addr: dip(1).Addr, Port: 255}, Weight: 1}},
		"one row of bytes, two kinds": {member(1, 1), {Dip: six, Weight: 1}},
		"V6 with a last byte":         {{Dip: tail, Weight: 1}},
		"the zero Dip":                {{Weight: 1}},
		"one weight twice":            pool(5, 5),
	}
}

// P17.1: Check: no more than MaxDips, each Addr Valid, no Dip twice, each Weight 1 to MaxWeight.
func TestCheck(t *testing.T) {
	for _, m := range [][]api.Member{nil, {}} {
		if e := slots.Check(m); e != api.OK {
			t.Errorf("of none: %d", e)
		}
	}
	for name, m := range good() {
		if e := slots.Check(m); e != api.OK {
			t.Errorf("%s: %d", name, e)
		}
	}
	for name, m := range bad() {
		if e := slots.Check(m); e != api.ErrArg {
			t.Errorf("%s: %d", name, e)
		}
	}
}

// P17.1: each weight, and each number of members, around what may be.
func TestCheckBounds(t *testing.T) {
	for weight := -20; weight <= 40; weight++ {
		want := api.ErrArg
		if 1 <= weight && weight <= 16 {
			want = api.OK
		}
		for at := range 3 {
			m := pool(1, 1, 1)
			m[at].Weight = weight
			if e := slots.Check(m); e != want {
				t.Errorf("weight %d of member %d: %d, want %d", weight, at, e, want)
			}
		}
	}
	for n := range 70 {
		want := api.ErrArg
		if n <= 32 {
			want = api.OK
		}
		if e := slots.Check(ones(n)); e != want {
			t.Errorf("%d members: %d, want %d", n, e, want)
		}
	}
	for i := range 32 {
		for j := range i {
			m := ones(32)
			m[i].Dip = m[j].Dip
			if e := slots.Check(m); e != api.ErrArg {
				t.Errorf("%d as %d: %d", i, j, e)
			}
		}
	}
}

// P17.1: Shares: by the weights, cut, and what is left to the greatest remainders, of equals the earlier one.
func TestShares(t *testing.T) {
	for _, row := range []struct {
		name    string
		n       int
		weights []int
		want    []int
	}{
		{"weights 1 and 2, of 4", 4, []int{1, 2}, []int{1, 3}},
		{"the other way round", 4, []int{2, 1}, []int{3, 1}},
		{"no slots", 0, []int{1, 2}, []int{0, 0}},
		{"one slot, one member", 1, []int{16}, []int{1}},
		{"all slots, one member", 64, []int{3}, []int{64}},
		{"no remainder", 6, []int{1, 2, 3}, []int{1, 2, 3}},
		{"no remainder, twice", 64, []int{16, 16}, []int{32, 32}},
		{"equal remainders: the earlier one", 3, []int{1, 1}, []int{2, 1}},
		{"two of three", 5, []int{1, 1, 1}, []int{2, 2, 1}},
		{"equal remainders of other weights", 5, []int{1, 4, 1, 4}, []int{1, 2, 0, 2}},
		{"the greatest one is the last", 10, []int{3, 3, 5}, []int{3, 3, 4}},
		{"the greatest one is in the middle", 10, []int{3, 5, 3}, []int{3, 4, 3}},
		{"by the remainder, not by the weight", 2, []int{5, 2}, []int{1, 1}},
		{"no remainder, none of what is left", 4, []int{4, 2, 1, 1}, []int{2, 1, 1, 0}},
		{"more members than slots", 2, []int{1, 1, 1, 1}, []int{1, 1, 0, 0}},
		{"more members than slots, by weight", 2, []int{1, 2, 1, 2}, []int{0, 1, 0, 1}},
		{"one slot", 1, []int{1, 2, 2, 1}, []int{0, 1, 0, 0}},
		{"little of much", 7, []int{16, 1}, []int{7, 0}},
		{"of 64", 64, []int{1, 2, 3}, []int{11, 21, 32}},
	} {
		if got := slots.Shares(pool(row.weights...), row.n); !slices.Equal(got, row.want) {
			t.Errorf("%s: %v, want %v", row.name, got, row.want)
		}
	}
	for n := 0; n <= 64; n++ {
		want := make([]int, 32)
		for i := range n {
			want[i%32]++
		}
		if got := slots.Shares(ones(32), n); !slices.Equal(got, want) {
			t.Errorf("MaxDips of one weight, %d: %v, want %v", n, got, want)
		}
	}
}

// wrong is numbers of slots that are none, whatever the members.
func wrong() []int {
	return []int{math.MinInt, math.MinInt32, -65, -64, -1, 65, 66, 128, 256, 1<<16 + 4, math.MaxInt32, math.MaxInt - 1, math.MaxInt}
}

// P17.1: Shares: none of an n below 0, or above 64, of m that Check refuses, or no m.
func TestNoShares(t *testing.T) {
	for _, n := range wrong() {
		for _, m := range [][]api.Member{nil, pool(1), pool(1, 2), ones(32), pool(0)} {
			if got := slots.Shares(m, n); len(got) != 0 {
				t.Errorf("of %d: %v", n, got)
			}
		}
	}
	for n := 0; n <= 64; n++ {
		for _, m := range [][]api.Member{nil, {}} {
			if got := slots.Shares(m, n); len(got) != 0 {
				t.Errorf("of no member, %d: %v", n, got)
			}
		}
	}
	for name, m := range bad() {
		for _, n := range []int{0, 1, 4, 64} {
			if got := slots.Shares(m, n); len(got) != 0 {
				t.Errorf("%s, %d: %v", name, n, got)
			}
		}
	}
}

// fills is Fill that has to answer this, by names.
func fills(t *testing.T, what string, old []api.Dip, m []api.Member, n int, want string) {
	t.Helper()
	if l, e := slots.Fill(old, m, n); e != api.OK || names(l) != want {
		t.Errorf("%s: %s, %d, want %s", what, names(l), e, want)
	}
}

// P17.2: Fill anew: each slot, in order, goes to the first of m that has fewer than its share.
func TestFillAnew(t *testing.T) {
	for _, old := range [][]api.Dip{nil, {}, dips("123")[:0]} {
		fills(t, "1 1 2 of 8", old, pool(1, 1, 2), 8, "11223333")
		fills(t, "1 2 of 4", old, pool(1, 2), 4, "1222")
		fills(t, "1 1 of 3", old, pool(1, 1), 3, "112")
		fills(t, "one slot", old, pool(7), 1, "1")
		fills(t, "more members than slots", old, pool(1, 2, 1, 2), 2, "24")
		fills(t, "in m's order", old, []api.Member{member(9, 1), member(3, 2), member(5, 1)}, 4, "9335")
	}
	if l, e := slots.Fill(nil, pool(3), 64); e != api.OK || !slices.Equal(l, slices.Repeat(dips("1"), 64)) {
		t.Errorf("of 64: %v, %d", l, e)
	}
}

// P17.2: Fill of what was: who keeps which, and who takes the others.
func TestFill(t *testing.T) {
	for _, row := range []struct {
		name string
		old  string
		m    []api.Member
		want string
	}{
		{"the same members", "11223333", pool(1, 1, 2), "11223333"},
		{"the same ones, as they stood otherwise", "31323132", pool(2, 2, 4), "31323132"},
		{"one less, the first", "11223333", pool(1, 1, 2)[1:], "23223333"},
		{"one less, the last", "11223333", pool(1, 1), "11221122"},
		{"one more", "11223333", append(pool(1, 1, 2), member(5, 1)), "11223335"},
		{"one more, who comes first of m", "11223333", append([]api.Member{member(5, 1)}, pool(1, 1, 2)...), "11253335"},
		{"one more, of much weight", "11223333", pool(1, 1, 2, 4), "14243344"},
		{"other weights", "11223333", pool(2, 1, 1), "11223311"},
		{"less of each, and two more", "11112222", pool(1, 1, 1, 1), "11332244"},
		{"others alone", "11223333", []api.Member{member(9, 3)}, "99999999"},
		{"in another order", "11223333", []api.Member{member(3, 1), member(1, 1)}, "11113333"},
		{"slots of none", "99991299", pool(1, 1), "11121222"},
		{"one slot of none", "12912912", pool(1, 1), "12112212"},
		{"a share of no slot", "22222222", []api.Member{member(1, 16), member(2, 1)}, "11111111"},
		{"a share of no slot, the last of three", "33333333", []api.Member{member(1, 16), member(2, 16), member(3, 1)}, "11112222"},
	} {
		fills(t, row.name, dips(row.old), row.m, 8, row.want)
	}
}

// P17.2: of slots that one had beyond its share the first ones stay.
func TestFillFirst(t *testing.T) {
	fills(t, "all were one's", dips("111111"), pool(1, 1), 6, "111222")
	fills(t, "between others", dips("121311"), pool(1, 1, 1), 6, "121323")
	fills(t, "twice too many", dips("212122"), pool(1, 1, 1), 6, "212133")
	fills(t, "at the end", dips("223111"), pool(1, 1, 1), 6, "223113")
}

// P17.2: what goes on goes to the first of m that lacks some then, not to who lacks the most, nor by turns.
func TestFillOthers(t *testing.T) {
	fills(t, "the first one of m, however little it lacks", dips("19999999"), pool(2, 3, 3), 8, "11222333")
	fills(t, "who comes first of m takes the first one", dips("999999"), []api.Member{member(4, 1), member(2, 2), member(3, 3)}, 6, "422333")
	fills(t, "one has its share already", dips("911111"), pool(5, 1), 6, "211111")
	fills(t, "what one leaves ahead of what is none's", dips("112299"), []api.Member{member(3, 1), member(1, 1), member(2, 1)}, 6, "112233")
}

// P17.2: a Dip is its Addr, its kind and its Port; the zero one is a member's, too.
func TestFillDips(t *testing.T) {
	plain, port, six := dip(1), dip(1), dip(1)
	port.Port = 7
	six.Addr.V6 = true
	zero := api.Dip{}
	for _, row := range []struct {
		name      string
		old       []api.Dip
		m         []api.Member
		want      []api.Dip
		different int
	}{
		{"of another Port", []api.Dip{port, plain}, []api.Member{{Dip: plain, Weight: 1}, {Dip: six, Weight: 1}}, []api.Dip{six, plain}, 1},
		{"of another kind", []api.Dip{six, plain}, []api.Member{{Dip: port, Weight: 1}, {Dip: plain, Weight: 1}}, []api.Dip{port, plain}, 1},
		{"all three stay", []api.Dip{six, port, plain}, []api.Member{{Dip: plain, Weight: 1}, {Dip: port, Weight: 1}, {Dip: six, Weight: 1}}, []api.Dip{six, port, plain}, 0},
		{"the zero one anew", nil, []api.Member{{Dip: plain, Weight: 1}, {Dip: zero, Weight: 1}}, []api.Dip{plain, zero}, 2},
		{"the zero one stays", []api.Dip{zero, plain}, []api.Member{{Dip: plain, Weight: 1}, {Dip: zero, Weight: 1}}, []api.Dip{zero, plain}, 0},
		{"the zero one, less", []api.Dip{zero, zero, zero, zero}, []api.Member{{Dip: plain, Weight: 1}, {Dip: zero, Weight: 1}}, []api.Dip{zero, zero, plain, plain}, 2},
		{"the zero one, more", []api.Dip{zero, plain, plain, plain}, []api.Member{{Dip: zero, Weight: 1}, {Dip: plain, Weight: 1}}, []api.Dip{zero, plain, plain, zero}, 1},
		{"the zero one is no member", []api.Dip{zero, plain}, []api.Member{{Dip: plain, Weight: 1}, {Dip: six, Weight: 1}}, []api.Dip{six, plain}, 1},
		{"not Valid, so nobody's", []api.Dip{{Addr: api.Addr{B: [16]byte{10, 0, 0, 1, 15: 1}}}, plain}, []api.Member{{Dip: port, Weight: 1}, {Dip: plain, Weight: 1}}, []api.Dip{port, plain}, 1},
	} {
		l, e := slots.Fill(row.old, row.m, len(row.want))
		if e != api.OK || !slices.Equal(l, row.want) {
			t.Errorf("%s: %v, %d, want %v", row.name, l, e, row.want)
		}
		if got := slots.Moved(row.old, l); got != row.different {
			t.Errorf("%s: %d moved, want %d", row.name, got, row.different)
		}
	}
}

// P17.2: ErrArg, and none, unless n is 1 to 64, m is as Check says, and old is empty, or n long; also where there is no m.
func TestFillRefused(t *testing.T) {
	refused := func(what string, old []api.Dip, m []api.Member, n int) {
		t.Helper()
		if l, e := slots.Fill(old, m, n); e != api.ErrArg || len(l) != 0 {
			t.Errorf("%s: %v, %d", what, l, e)
		}
	}
	for _, n := range append(wrong(), 0) {
		refused("n", nil, pool(1), n)
		refused("n, of no member", nil, nil, n)
		refused("n, of an old one", dips("1"), pool(1), n)
		if 0 < n && n < 1000 {
			refused("n, of as long an old one", make([]api.Dip, n), pool(1), n)
		}
	}
	for name, m := range bad() {
		for _, n := range []int{1, 4, 64} {
			refused(name, nil, m, n)
			refused(name, make([]api.Dip, n), m, n)
		}
	}
	for n := 1; n <= 64; n++ {
		for _, length := range []int{1, 2, n - 1, n + 1, 64, 65, 1000} {
			if length == n || length == 0 {
				continue
			}
			refused("old", make([]api.Dip, length), pool(1, 2), n)
			refused("old, of no member", make([]api.Dip, length), nil, n)
		}
	}
}

// P17.2: without m none, and no reason.
func TestFillNone(t *testing.T) {
	for n := 1; n <= 64; n++ {
		for _, m := range [][]api.Member{nil, {}} {
			for _, old := range [][]api.Dip{nil, {}, slices.Repeat(dips("1"), n), make([]api.Dip, n)} {
				if l, e := slots.Fill(old, m, n); e != api.OK || len(l) != 0 {
					t.Errorf("of %d: %v, %d", n, l, e)
				}
			}
		}
	}
}

// P17.2: Fill takes each number of slots that may be, anew and again.
func TestFillNumbers(t *testing.T) {
	for n := 1; n <= 64; n++ {
		for _, m := range good() {
			held(t, held(t, nil, m, n), m, n)
		}
	}
}

// P17.2: Moved: at how many places two differ, those that one has alone among them.
func TestMoved(t *testing.T) {
	for _, row := range []struct {
		a, b string
		want int
	}{
		{"", "", 0},
		{"", "1", 1},
		{"", "12345678", 8},
		{"1", "1", 0},
		{"1", "2", 1},
		{"1122", "1122", 0},
		{"1122", "2211", 4},
		{"1122", "1212", 2},
		{"1122", "112", 1},
		{"1122", "122", 2},
		{"1122", "3", 4},
		{"123", "1233333", 4},
	} {
		a, b := dips(row.a), dips(row.b)
		if got := slots.Moved(a, b); got != row.want {
			t.Errorf("%s, %s: %d, want %d", row.a, row.b, got, row.want)
		}
		if got := slots.Moved(b, a); got != row.want {
			t.Errorf("%s, %s: %d, want %d", row.b, row.a, got, row.want)
		}
		if got := slots.Moved(a, a); got != 0 {
			t.Errorf("%s and itself: %d", row.a, got)
		}
	}
	port, six, odd := dip(1), dip(1), dip(1)
	port.Port, six.Addr.V6, odd.Addr.B[15] = 1, true, 1
	apart := []api.Dip{dip(1), port, six, odd, {}}
	for i, a := range apart {
		for j, b := range apart {
			want := 1
			if i == j {
				want = 0
			}
			if got := slots.Moved([]api.Dip{a}, []api.Dip{b}); got != want {
				t.Errorf("%v, %v: %d, want %d", a, b, got, want)
			}
		}
	}
	if got := slots.Moved(nil, make([]api.Dip, 3)); got != 3 {
		t.Errorf("none, and zero ones: %d", got)
	}
	if got := slots.Moved(make([]api.Dip, 5000), slices.Repeat(dips("1"), 4000)); got != 5000 {
		t.Errorf("of thousands: %d", got)
	}
}

// P17.3: what is handed in is not changed, nor the room behind it.
func TestHandedIn(t *testing.T) {
	roomy := func(l []api.Dip) []api.Dip { return append(l, dips("77777777")...)[:len(l)] }
	for _, old := range [][]api.Dip{roomy(nil), roomy(dips("11223333")), roomy(dips("99111199")), roomy(dips("11"))} {
		for _, members := range [][]api.Member{pool(1, 1, 2), pool(2, 1), pool(5, 16, 3, 3, 3), pool(0, 1), nil} {
			m := append(slices.Clone(members), member(7, 7), member(7, 7))[:len(members)]
			oldWas, mWas := slices.Clone(old[:cap(old)]), slices.Clone(m[:cap(m)])
			slots.Check(m)
			slots.Shares(m, 8)
			slots.Fill(old, m, 8)
			slots.Fill(old, m, 2)
			slots.Moved(old, dips("12121212"))
			slots.Moved(dips("1"), old)
			if now := old[:cap(old)]; !slices.Equal(now, oldWas) {
				t.Errorf("old is %v, was %v", now, oldWas)
			}
			if now := m[:cap(m)]; !slices.Equal(now, mWas) {
				t.Errorf("m is %v, was %v", now, mWas)
			}
		}
	}
}

// P17.3: what is handed in is not kept, and what was answered is its holder's: changed, it changes no later answer, nor what was handed in.
func TestAnswered(t *testing.T) {
	m, old := pool(1, 1, 2), dips("11223333")
	shares := slots.Shares(m, 8)
	same, _ := slots.Fill(old, m, 8)
	anew, _ := slots.Fill(nil, m, 8)
	for i := range shares {
		shares[i] = -5
	}
	for i := range same {
		same[i], anew[i] = dip(9), dip(8)
	}
	if names(old) != "11223333" || names(same) != "99999999" || names(anew) != "88888888" {
		t.Errorf("old %s, same %s, anew %s", names(old), names(same), names(anew))
	}
	again := slots.Shares(m, 8)
	if !slices.Equal(again, []int{2, 2, 4}) || !slices.Equal(shares, []int{-5, -5, -5}) {
		t.Errorf("Shares: %v, what was answered %v", again, shares)
	}
	fills(t, "the same members, once more", old, m, 8, "11223333")
	fills(t, "anew, once more", nil, m, 8, "11223333")

	kept, _ := slots.Fill(old, m, 8)
	for i := range old {
		old[i] = dip(7)
	}
	for i := range m {
		m[i] = member(6, 0)
	}
	if names(kept) != "11223333" || !slices.Equal(again, []int{2, 2, 4}) {
		t.Errorf("what was answered: %s, %v", names(kept), again)
	}
	fills(t, "of other ones", dips("2222"), pool(1, 1), 4, "2211")
}

// P17.3: the same row as both: filled with its own answer, one keeps all; with one more, one less and other weights none that stays, and has no less, loses a slot.
func TestStays(t *testing.T) {
	m := pool(3, 1, 4, 2)
	for n := 1; n <= 64; n++ {
		first := held(t, nil, m, n)
		for _, then := range [][]api.Member{m, m[1:], m[:3], append(pool(3, 1, 4, 2), member(9, 5)), pool(16, 1, 4, 2), pool(1, 1, 1, 1), {m[3], m[2], m[1], m[0]}} {
			next := held(t, first, then, n)
			if back := held(t, next, m, n); slices.Equal(then, m) && slots.Moved(back, first) != 0 {
				t.Errorf("of %d: %v, was %v", n, back, first)
			}
		}
	}
}
