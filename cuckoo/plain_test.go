package cuckoo_test

import (
	"slices"
	"strconv"
	"strings"
	"testing"

	"bazaar/api"
	"bazaar/cuckoo"
	"bazaar/family"
	"bazaar/key"
)

// plain is what a table should be, told from the words of chapter 16 alone: a list of who is there, in the order in which they came.
type plain struct {
	f    *family.Family
	c    api.Config
	list []held
}

// own is a key's places.
func (m *plain) own(k api.Key) (out []api.Place) {
	for stage := range 4 {
		if p, ok := m.f.Place(k, stage); ok {
			out = append(out, p)
		}
	}
	return out
}

// who is the number of the one at a place; -1 of a free one.
func (m *plain) who(p api.Place) int {
	return slices.IndexFunc(m.list, func(h held) bool { return h.p == p })
}

func (m *plain) number(k api.Key) int {
	return slices.IndexFunc(m.list, func(h held) bool { return h.k == k })
}

func (m *plain) look(k api.Key, vip int) found {
	for _, p := range m.own(k) {
		if n := m.who(p); n >= 0 && m.list[n].cell.Vip == vip && m.list[n].cell.Digest == m.f.Digest(k) {
			return found{p, m.list[n].cell, true}
		}
	}
	return found{}
}

func (m *plain) find(k api.Key) found {
	n := m.number(k)
	if n < 0 {
		return found{}
	}
	return found{m.list[n].p, m.list[n].cell, true}
}

// twins is all of a key's, in no order.
func (m *plain) twins(k api.Key, vip int) (out []api.Key) {
	if !key.Valid(k) {
		return nil
	}
	digest, mine := m.f.Digest(k), m.own(k)
	for _, h := range m.list {
		if h.k == k || h.cell.Vip != vip || h.cell.Digest != digest {
			continue
		}
		theirs := m.own(h.k)
		for stage := range theirs {
			if theirs[stage] == mine[stage] {
				out = append(out, h.k)
				break
			}
		}
	}
	return out
}

func (m *plain) twin(k api.Key, vip int) (least api.Key, ok bool) {
	text := ""
	for _, x := range m.twins(k, vip) {
		if s := string(key.Bytes(x)); !ok || s < text {
			least, text, ok = x, s, true
		}
	}
	return least, ok
}

// way is the search: a row of ways, each of them told whole.
func (m *plain) way(k api.Key) []api.Place {
	var row [][]api.Place
	var ever []api.Place
	behind := func(ahead []api.Place, x api.Key) {
		for _, p := range m.own(x) {
			if !slices.Contains(ever, p) {
				ever = append(ever, p)
				row = append(row, slices.Concat(ahead, []api.Place{p}))
			}
		}
	}
	behind(nil, k)
	for looked := 1; len(row) > 0 && looked <= m.c.Evict; looked++ {
		way := row[0]
		row = row[1:]
		n := m.who(way[len(way)-1])
		if n < 0 {
			return way
		}
		behind(way, m.list[n].k)
	}
	return nil
}

func (m *plain) insert(k api.Key, vip, version int) (moves []cuckoo.Move, e api.Errno) {
	if !key.Valid(k) || vip < 0 || version < 0 {
		return nil, api.ErrArg
	}
	if m.number(k) >= 0 {
		return nil, api.ErrHave
	}
	if len(m.twins(k, vip)) > 0 {
		return nil, api.ErrArg
	}
	way := m.way(k)
	if way == nil {
		return nil, api.ErrFull
	}
	for len(way) > 1 {
		from, to := way[len(way)-2], way[len(way)-1]
		n := m.who(from)
		m.list[n].p = to
		moves = append(moves, cuckoo.Move{Key: m.list[n].k, From: from, To: to})
		way = way[:len(way)-1]
	}
	m.list = append(m.list, held{way[0], k, api.Cell{Used: true, Digest: m.f.Digest(k), Vip: vip, Version: version}})
	return moves, api.OK
}

func (m *plain) delete(k api.Key) (api.Cell, bool) {
	n := m.number(k)
	if n < 0 {
		return api.Cell{}, false
	}
	cell := m.list[n].cell
	m.list = slices.Delete(m.list, n, n+1)
	return cell, true
}

func (m *plain) all() []held {
	return slices.SortedFunc(slices.Values(m.list), func(a, b held) int {
		if a.p.Stage != b.p.Stage {
			return a.p.Stage - b.p.Stage
		}
		return a.p.Index - b.p.Index
	})
}

// dice is numbers that are the same ones each time.
type dice uint64

func (d *dice) below(n int) int {
	*d = *d*6364136223846793005 + 1442695040888963407
	return int(uint64(*d) >> 33 % uint64(n))
}

// run is a table and a plain one, to which the same is done.
type run struct {
	t     *testing.T
	table *cuckoo.Table
	plain plain
	vips  int
	d     dice
	tally map[string]int
}

func (r *run) insert(k api.Key, vip, version int) {
	r.t.Helper()
	got, d := r.table.Insert(k, vip, version)
	want, e := r.plain.insert(k, vip, version)
	if d != e || !slices.Equal(got, want) || d != api.OK && len(got) > 0 {
		r.t.Fatalf("Insert of %s, %d, %d: %v, %d, want %v, %d", key.Text(k), vip, version, got, d, want, e)
	}
	r.tally["answer "+strconv.Itoa(int(e))]++
	r.tally["moves "+strconv.Itoa(len(want))]++
}

func (r *run) delete(k api.Key) {
	r.t.Helper()
	got, d := r.table.Delete(k)
	want, e := r.plain.delete(k)
	if got != want || d != e {
		r.t.Fatalf("Delete of %s: %v, %v, want %v, %v", key.Text(k), got, d, want, e)
	}
}

// ask holds what is told of one key against what the plain table tells.
func (r *run) ask(k api.Key, vip int) {
	r.t.Helper()
	if got, want := look(r.table, k, vip), r.plain.look(k, vip); got != want {
		r.t.Fatalf("Look for %s of %d: %v, want %v", key.Text(k), vip, got, want)
	}
	if got, want := find(r.table, k), r.plain.find(k); got != want {
		r.t.Fatalf("Find of %s: %v, want %v", key.Text(k), got, want)
	}
	got, d := r.table.Twin(k, vip)
	want, e := r.plain.twin(k, vip)
	if got != want || d != e {
		r.t.Fatalf("Twin of %s of %d: %s, %v, want %s, %v", key.Text(k), vip, key.Text(got), d, key.Text(want), e)
	}
	if e {
		r.tally["twin"]++
	}
}

// whole holds all that is there against the plain table, and each one against what the switch sees.
func (r *run) whole() {
	r.t.Helper()
	if got, want := all(r.table), r.plain.all(); !slices.Equal(got, want) || r.table.Len() != len(want) {
		r.t.Fatalf("%d are there: %v, want %d: %v", r.table.Len(), got, len(want), want)
	}
	for _, h := range r.plain.list {
		if got, itself := look(r.table, h.k, h.cell.Vip), find(r.table, h.k); got != itself || got != (found{h.p, h.cell, true}) {
			r.t.Fatalf("%s is seen as %v, found as %v, and is %v", key.Text(h.k), got, itself, h)
		}
	}
}

// step does one thing, mostly to flows of the pool.
func (r *run) step(pool []api.Key, n int) {
	r.t.Helper()
	k := pool[r.d.below(len(pool))]
	vip := r.d.below(r.vips)
	switch r.d.below(12) {
	case 0, 1:
		r.delete(k)
	case 2:
		r.ask(k, r.d.below(r.vips+1)-1)
	case 3:
		bad := notValid()
		k = bad[r.d.below(len(bad))]
		r.insert(k, vip, n)
		r.ask(k, vip)
		r.delete(k)
	case 4:
		r.insert(k, vip-r.vips, n)
		r.insert(k, vip, -n-1)
	default:
		r.ask(k, vip)
		r.insert(k, vip, n)
		r.ask(k, vip)
	}
}

// P16.1 to P16.4: tables of one stage and of four, small and large, of digests that are often the same and hardly ever, held against the plain one.
func TestAgainstPlain(t *testing.T) {
	for _, row := range []struct {
		c            api.Config
		vips, pool   int
		steps, whole int
		reached      string // what must have come
	}{
		{config(1, 2, 1, 1), 3, 30, 1000, 1, "answer 1,answer 3,answer 6,twin"},
		{config(1, 4, 3, 64), 2, 30, 1000, 1, "answer 1,answer 3,answer 6,twin"},
		{config(1, 64, 6, 8), 2, 300, 3000, 10, "answer 1,answer 3,answer 6,twin"},
		{config(2, 2, 8, 8), 2, 30, 2000, 1, "answer 3,moves 1"},
		{config(2, 4, 2, 3), 3, 40, 1500, 1, "answer 3,moves 1,twin"},
		{config(2, 4, 16, 64), 1, 40, 1500, 1, "answer 3,moves 1,moves 2,moves 3"},
		{config(2, 8, 12, 64), 2, 60, 2000, 4, "answer 3,moves 4,moves 5"},
		{config(2, 16, 12, 7), 2, 90, 2000, 4, "answer 3,moves 3"},
		{config(3, 8, 4, 16), 4, 80, 2000, 4, "answer 3,moves 1,moves 2,twin"},
		{config(3, 8, 16, 2), 4, 80, 1500, 4, "answer 3"},
		{config(4, 2, 16, 64), 2, 40, 1500, 1, "answer 3,moves 1,moves 2"},
		{config(4, 16, 6, 5), 5, 200, 3000, 20, "answer 3,moves 1,twin"},
		{config(4, 64, 16, 64), 5, 400, 4000, 100, "answer 3,moves 2,moves 3"},
		{config(4, 1024, 16, 64), 16, 5000, 3500, 1000, "moves 0"},
		{config(2, 1024, 6, 32), 4, 3000, 3000, 1000, "moves 1,moves 2,twin"},
	} {
		for _, seed := range []uint32{7, 0xfffffff0} {
			c := row.c
			c.Seed = seed
			name := strings.Join([]string{strconv.Itoa(c.Stages), strconv.Itoa(c.Size), strconv.Itoa(c.Digest), strconv.Itoa(c.Evict), strconv.Itoa(int(seed & 15))}, " ")
			t.Run(name, func(t *testing.T) {
				f := hashes(t, c)
				r := run{t: t, table: made(t, f, c), plain: plain{f: f, c: c}, vips: row.vips, d: dice(seed), tally: map[string]int{}}
				pool := flows(row.pool)
				for n := range row.steps {
					r.step(pool, n)
					if n%row.whole == 0 {
						r.whole()
					}
				}
				r.whole()
				for want := range strings.SplitSeq(row.reached, ",") {
					if r.tally[want] == 0 {
						t.Errorf("never came: %s; %v", want, r.tally)
					}
				}
			})
		}
	}
}

// P16.4: no two that are there are twins.
func TestNoneAreTwins(t *testing.T) {
	for _, c := range []api.Config{config(2, 16, 3, 16), config(4, 8, 4, 64), config(1, 32, 2, 4)} {
		f := hashes(t, c)
		table := made(t, f, c)
		for n, k := range flows(400) {
			table.Insert(k, n%3, n)
			if n%5 == 4 {
				table.Delete(flow(n / 2))
			}
		}
		list := all(table)
		if len(list) < 8 {
			t.Fatalf("only %d are there", len(list))
		}
		for _, a := range list {
			for _, b := range list {
				m := plain{f: f, c: c, list: []held{b}}
				if twins := m.twins(a.k, a.cell.Vip); len(twins) > 0 {
					t.Errorf("%s and %s are twins", key.Text(a.k), key.Text(b.k))
				}
			}
		}
	}
}

// Rule 1: a Family of another Config than the table's: nothing panics, nobody is put where no place is, and who is there is found.
func TestOtherFamily(t *testing.T) {
	for _, row := range [][2]api.Config{
		{config(4, 16, 8, 8), config(2, 4, 8, 8)}, {config(4, 1024, 16, 8), config(1, 2, 1, 64)},
		{config(1, 2, 1, 1), config(4, 16, 16, 64)}, {config(2, 4, 8, 8), config(4, 1024, 8, 8)},
	} {
		f := hashes(t, row[0])
		table := made(t, f, row[1])
		there := 0
		for n, k := range flows(200) {
			_, e := table.Insert(k, 0, n)
			if got := find(table, k); got.ok != (e == api.OK) || got.ok && got.cell.Version != n {
				t.Fatalf("%s: %d, then %v", key.Text(k), e, got)
			}
			if e == api.OK {
				there++
			}
		}
		for _, h := range all(table) {
			if h.p.Stage >= row[1].Stages || h.p.Index >= row[1].Size || find(table, h.k) != (found{h.p, h.cell, true}) || look(table, h.k, 0) != find(table, h.k) {
				t.Errorf("%v", h)
			}
		}
		if table.Len() != there || len(all(table)) != there {
			t.Errorf("%d, not %d", table.Len(), there)
		}
	}
}
