package slots_test

import (
	"slices"
	"testing"

	"bazaar/addr"
	"bazaar/api"
	"bazaar/slots"
)

// nobody is who has a slot that nobody has yet.
const nobody = -1

// plainCheck is Check, told from the words of P17.1 alone.
func plainCheck(m []api.Member) bool {
	for i, a := range m {
		for j, b := range m {
			if i != j && a.Dip == b.Dip {
				return false
			}
		}
		if !addr.Valid(a.Dip.Addr) || a.Weight < 1 || 16 < a.Weight {
			return false
		}
	}
	return len(m) <= 32
}

// plainShares is Shares of what Check takes and n of 0 to 64, told from the words of P17.1 alone: those with the greatest remainders by sorting.
func plainShares(m []api.Member, n int) []int {
	sum, gone := 0, 0
	for _, one := range m {
		sum += one.Weight
	}
	out, order := make([]int, len(m)), make([]int, len(m))
	for i, one := range m {
		order[i] = i
		for (out[i]+1)*sum <= n*one.Weight {
			out[i]++
		}
		gone += out[i]
	}
	slices.SortStableFunc(order, func(i, j int) int { return (n*m[j].Weight - out[j]*sum) - (n*m[i].Weight - out[i]*sum) })
	for _, i := range order[:n-gone] {
		out[i]++
	}
	return out
}

// plainFill is Fill of what it takes, told from the words of P17.2 alone: of each slot who has it, each one's slots counted anew for each slot.
func plainFill(old []api.Dip, m []api.Member, n int) []api.Dip {
	if len(m) == 0 {
		return nil
	}
	shares := plainShares(m, n)
	who := slices.Repeat([]int{nobody}, n)
	has := func(i int) (slots int) {
		for _, x := range who {
			if x == i {
				slots++
			}
		}
		return slots
	}
	for slot, d := range old {
		for i, one := range m {
			if one.Dip == d && has(i) < shares[i] {
				who[slot] = i
			}
		}
	}
	out := make([]api.Dip, n)
	for slot := range who {
		for i := 0; who[slot] == nobody; i++ {
			if has(i) < shares[i] {
				who[slot] = i
			}
		}
		out[slot] = m[who[slot]].Dip
	}
	return out
}

// count is how many slots one has.
func count(l []api.Dip, d api.Dip) (n int) {
	for _, x := range l {
		if x == d {
			n++
		}
	}
	return n
}

// follows holds one Fill against P17.3, whatever P17.2 says of how: each has its share, and nobody else any;
// who stays, and whose share is not less, loses no slot; no more moves than has to, and filled once more nothing does.
func follows(t *testing.T, old []api.Dip, m []api.Member, n int) {
	t.Helper()
	l, e := slots.Fill(old, m, n)
	shares := slots.Shares(m, n)
	if e != api.OK || len(l) != n || len(shares) != len(m) {
		t.Fatalf("Fill of %v, %v, %d: %v, %d, shares %v", old, m, n, l, e, shares)
	}
	all, stay := 0, 0
	for i, one := range m {
		had, has := count(old, one.Dip), count(l, one.Dip)
		if has != shares[i] {
			t.Errorf("Fill of %v, %v, %d: %v has %d slots, its share is %d", old, m, n, one.Dip, has, shares[i])
		}
		for slot, d := range old {
			if d == one.Dip && l[slot] != d && had <= shares[i] {
				t.Errorf("Fill of %v, %v, %d: %v loses slot %d", old, m, n, d, slot)
			}
		}
		all += has
		stay += min(had, shares[i])
	}
	if all != n {
		t.Errorf("Fill of %v, %v, %d: of %v %d slots are the members'", old, m, n, l, all)
	}
	if moved := slots.Moved(old, l); moved != n-stay {
		t.Errorf("Fill of %v, %v, %d: %v: %d slots move, want %d", old, m, n, l, moved, n-stay)
	}
	if again, e := slots.Fill(l, m, n); e != api.OK || !slices.Equal(again, l) {
		t.Errorf("filled once more: %v, %d, was %v", again, e, l)
	}
}

// held is Fill of what it takes, held against plainFill and P17.3.
func held(t *testing.T, old []api.Dip, m []api.Member, n int) []api.Dip {
	t.Helper()
	l, e := slots.Fill(old, m, n)
	if want := plainFill(old, m, n); e != api.OK || !slices.Equal(l, want) {
		t.Fatalf("Fill of %v, %v, %d: %v, %d, want %v", old, m, n, l, e, want)
	}
	if len(m) > 0 {
		follows(t, old, m, n)
	}
	return l
}

// every calls with each row of so many numbers from low to high; the row is the caller's until the next one.
func every(size, low, high int, call func(row []int)) {
	row := slices.Repeat([]int{low}, size)
	for {
		call(row)
		at := 0
		for at < size && row[at] == high {
			row[at] = low
			at++
		}
		if at == size {
			return
		}
		row[at]++
	}
}

// numbers is a row of numbers that look like nothing, the same ones in each run.
type numbers uint64

// below is the next one, less than n.
func (x *numbers) below(n int) int {
	*x = *x*6364136223846793005 + 1442695040888963407
	return int(*x >> 33 % numbers(n))
}

// someDip is one of a few, among them the zero one, and some that are another one but for the port, or for the kind.
func someDip(n int) api.Dip {
	d := api.Dip{Addr: api.Addr{V6: n%2 == 1}, Port: uint16(n / 2 % 2)}
	d.Addr.B[3] = byte(n / 4)
	return d
}

// some is members of any number, order and weights, no Dip twice.
func some(x *numbers, most int) (m []api.Member) {
	for range x.below(most + 1) {
		one := api.Member{Dip: someDip(x.below(48)), Weight: 1 + x.below(16)}
		if !slices.ContainsFunc(m, func(o api.Member) bool { return o.Dip == one.Dip }) {
			m = append(m, one)
		}
	}
	return m
}

// P17.1: Shares, of all few members of all small weights, over each number of slots.
func TestSharesOfFew(t *testing.T) {
	for size := 1; size <= 4; size++ {
		every(size, 1, 5, func(weights []int) {
			m := pool(weights...)
			for n := range 21 {
				if got, want := slots.Shares(m, n), plainShares(m, n); !slices.Equal(got, want) {
					t.Fatalf("Shares of %v, %d: %v, want %v", weights, n, got, want)
				}
			}
		})
	}
}

// P17.1: Shares, of many, over each number of slots that may be: all is shared.
func TestSharesOfMany(t *testing.T) {
	x := numbers(17)
	for range 400 {
		var weights []int
		for range 1 + x.below(32) {
			weights = append(weights, 1+x.below(16))
		}
		m := pool(weights...)
		for n := 0; n <= 64; n++ {
			got := slots.Shares(m, n)
			if want := plainShares(m, n); !slices.Equal(got, want) {
				t.Fatalf("Shares of %v, %d: %v, want %v", weights, n, got, want)
			}
			sum := 0
			for _, share := range got {
				sum += share
			}
			if sum != n {
				t.Fatalf("Shares of %v, %d: %v, which is %d", weights, n, got, sum)
			}
		}
	}
}

// P17.1: Check, of many that may be and may not.
func TestCheckOfMany(t *testing.T) {
	x := numbers(5)
	taken := 0
	for range 20000 {
		m := some(&x, 12)
		switch x.below(6) {
		case 0:
			m = append(m, api.Member{Dip: someDip(x.below(48)), Weight: 1})
		case 1:
			m = append(m, api.Member{Dip: dip(1), Weight: x.below(24) - 3})
		case 2:
			odd := api.Member{Dip: api.Dip{Addr: api.Addr{V6: x.below(2) == 1}}, Weight: 1}
			odd.Dip.Addr.B[4+x.below(12)] = 1
			m = append(m, odd)
		}
		want := api.ErrArg
		if plainCheck(m) {
			want = api.OK
			taken++
		}
		if got := slots.Check(m); got != want {
			t.Fatalf("Check of %v: %d, want %d", m, got, want)
		}
	}
	if taken == 0 || taken == 20000 {
		t.Errorf("%d are taken", taken)
	}
}

// P17.2, P17.3: Fill, of all few members of small weights, over few slots that were anybody's, a stranger's too.
func TestFillOfFew(t *testing.T) {
	for size := 1; size <= 3; size++ {
		every(size, 1, 3, func(weights []int) {
			m := pool(weights...)
			for n := 1; n <= 5; n++ {
				held(t, nil, m, n)
				every(n, 1, size+1, func(row []int) {
					var old []api.Dip
					for _, name := range row {
						old = append(old, dip(byte(name)))
					}
					held(t, old, m, n)
				})
			}
		})
	}
}

// P17.2, P17.3: Fill, again and again of what it answered: members that come and go, in another order, with other weights, and none at times.
func TestFillOnAndOn(t *testing.T) {
	x := numbers(3)
	for _, n := range []int{1, 2, 7, 16, 33, 63, 64} {
		var old []api.Dip
		for range 400 {
			old = held(t, old, some(&x, 32), n)
		}
	}
}

// P17.2, P17.3: Fill, of slots that no Fill answered: of few, of many, and of strangers.
func TestFillOfWhatever(t *testing.T) {
	x := numbers(8)
	for range 3000 {
		n := 1 + x.below(64)
		var old []api.Dip
		for range n {
			old = append(old, someDip(x.below(56)))
		}
		held(t, old, some(&x, 32), n)
	}
}

// P17.2: Moved, of two of any lengths.
func TestMovedOfMany(t *testing.T) {
	x := numbers(2)
	for range 5000 {
		rows := [2][]api.Dip{}
		for i := range rows {
			for range x.below(20) {
				rows[i] = append(rows[i], someDip(x.below(6)))
			}
		}
		a, b := rows[0], rows[1]
		want := 0
		for at := range 20 {
			// None is where both end, or where both have the same.
			if (at < len(a)) != (at < len(b)) || at < len(a) && a[at] != b[at] {
				want++
			}
		}
		if got := slots.Moved(a, b); got != want {
			t.Fatalf("Moved of %v, %v: %d, want %d", a, b, got, want)
		}
		if got := slots.Moved(b, a); got != want {
			t.Fatalf("Moved of %v, %v: %d, want %d", b, a, got, want)
		}
	}
}
