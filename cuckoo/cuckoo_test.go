package cuckoo_test

import (
	"math"
	"slices"
	"strconv"
	"testing"

	"bazaar/addr"
	"bazaar/api"
	"bazaar/cuckoo"
	"bazaar/family"
	"bazaar/key"
)

// config is one of so many stages and cells, of so many bits of digest, whose search looks at so many places.
func config(stages, size, digest, evict int) api.Config {
	return api.Config{Stages: stages, Size: size, Digest: digest, Bloom: 64, Hashes: 2, Slots: 8, Versions: 4, Queue: 16, Evict: evict, Idle: 30, Linger: 2, Fails: 3, Seed: 7}
}

func hashes(t *testing.T, c api.Config) *family.Family {
	t.Helper()
	f, e := family.New(c)
	if e != api.OK || f == nil {
		t.Fatalf("no family of %+v: %d", c, e)
	}
	return f
}

// made is New of what may be.
func made(t *testing.T, f *family.Family, c api.Config) *cuckoo.Table {
	t.Helper()
	table, e := cuckoo.New(f, c)
	if e != api.OK || table == nil {
		t.Fatalf("New of %+v: %v, %d", c, table, e)
	}
	return table
}

func at(stage, index int) api.Place { return api.Place{Stage: stage, Index: index} }

// flow is one of many, no two the same, of both protocols and both kinds.
func flow(n int) api.Key {
	k := api.Key{Proto: api.TCP, Src: addr.V4(10, 1, byte(n>>8), byte(n)), Dst: addr.V4(10, 0, 0, 200), SrcPort: uint16(n * 31), DstPort: uint16(80 + n>>16)}
	if n%3 == 1 {
		k.Proto = api.UDP
	}
	if n%4 == 3 {
		k.Src = api.Addr{V6: true, B: [16]byte{0x20, 1, 14: byte(n >> 8), 15: byte(n)}}
		k.Dst = api.Addr{V6: true, B: [16]byte{0x20, 2, 15: 200}}
	}
	return k
}

// flows is some of them.
func flows(n int) (out []api.Key) {
	for i := range n {
		out = append(out, flow(i))
	}
	return out
}

// notValid is keys that are no flows.
func notValid() []api.Key {
	proto, mixed, tail, other := flow(0), flow(0), flow(0), flow(3)
	proto.Proto = 1
	mixed.Dst = api.Addr{V6: true}
	tail.Src.B[15] = 1
	other.Src.V6 = false
	return []api.Key{{}, proto, mixed, tail, other}
}

// pick is the n-th flow that is so, from 0 on.
func pick(t *testing.T, n int, so func(k api.Key) bool) api.Key {
	t.Helper()
	for i := range 1 << 19 {
		if k := flow(i); so(k) {
			if n == 0 {
				return k
			}
			n--
		}
	}
	t.Fatal("no flow is so")
	return api.Key{}
}

// placed tells flows whose places have these indexes, stage by stage.
func placed(f *family.Family, indexes ...int) func(k api.Key) bool {
	return func(k api.Key) bool {
		for stage, index := range indexes {
			if p, ok := f.Place(k, stage); !ok || p.Index != index {
				return false
			}
		}
		return true
	}
}

// both tells flows that are so and so.
func both(a, b func(k api.Key) bool) func(k api.Key) bool {
	return func(k api.Key) bool { return a(k) && b(k) }
}

// digested tells flows of one digest.
func digested(f *family.Family, digest uint16) func(k api.Key) bool {
	return func(k api.Key) bool { return f.Digest(k) == digest }
}

// held is one that is there: where, who, and its cell.
type held struct {
	p    api.Place
	k    api.Key
	cell api.Cell
}

// all is what a table has, as it tells it.
func all(table *cuckoo.Table) (out []held) {
	for p, cell := range table.Cells() {
		k, _ := table.Owner(p)
		out = append(out, held{p, k, cell})
	}
	return out
}

// found is one answer of Look or Find.
type found struct {
	p    api.Place
	cell api.Cell
	ok   bool
}

func look(table *cuckoo.Table, k api.Key, vip int) found {
	p, cell, ok := table.Look(k, vip)
	return found{p, cell, ok}
}

func find(table *cuckoo.Table, k api.Key) found {
	p, cell, ok := table.Find(k)
	return found{p, cell, ok}
}

// put is Insert that has to find room, by these moves.
func put(t *testing.T, table *cuckoo.Table, k api.Key, vip, version int, want ...cuckoo.Move) {
	t.Helper()
	if moves, e := table.Insert(k, vip, version); e != api.OK || !slices.Equal(moves, want) {
		t.Fatalf("Insert of %s: %v, %d, want %v", key.Text(k), moves, e, want)
	}
}

// refuses is Insert that has to be refused so, and to change nothing.
func refuses(t *testing.T, table *cuckoo.Table, k api.Key, vip, version int, want api.Errno) {
	t.Helper()
	was := all(table)
	if moves, e := table.Insert(k, vip, version); e != want || len(moves) != 0 {
		t.Errorf("Insert of %s, %d, %d: %v, %d, want %d", key.Text(k), vip, version, moves, e, want)
	}
	if now := all(table); !slices.Equal(now, was) || table.Len() != len(was) {
		t.Errorf("refused %s: %v, was %v", key.Text(k), now, was)
	}
}

// stays runs calls that may change nothing.
func stays(t *testing.T, table *cuckoo.Table, calls func()) {
	t.Helper()
	was := all(table)
	calls()
	if now := all(table); !slices.Equal(now, was) || table.Len() != len(was) {
		t.Errorf("changed: %v, was %v", now, was)
	}
}

// P16.1: New: ErrArg of a nil Family, and of a Config that Check refuses, each field of it; else an empty one.
func TestNew(t *testing.T) {
	c := config(2, 4, 8, 8)
	f := hashes(t, c)
	if table, e := cuckoo.New(nil, c); e != api.ErrArg || table != nil {
		t.Errorf("of no family: %v, %d", table, e)
	}
	if table, e := cuckoo.New(nil, api.Config{}); e != api.ErrArg || table != nil {
		t.Errorf("of nothing: %v, %d", table, e)
	}
	for n, spoil := range []func(c *api.Config){
		func(c *api.Config) { *c = api.Config{} },
		func(c *api.Config) { c.Stages = 0 }, func(c *api.Config) { c.Stages = 5 },
		func(c *api.Config) { c.Size = 1 }, func(c *api.Config) { c.Size = 3 }, func(c *api.Config) { c.Size = 2048 },
		func(c *api.Config) { c.Digest = 0 }, func(c *api.Config) { c.Digest = 17 },
		func(c *api.Config) { c.Bloom = 7 }, func(c *api.Config) { c.Hashes = 5 }, func(c *api.Config) { c.Slots = 65 },
		func(c *api.Config) { c.Versions = 1 }, func(c *api.Config) { c.Queue = 0 },
		func(c *api.Config) { c.Evict = 0 }, func(c *api.Config) { c.Evict = 65 },
		func(c *api.Config) { c.Idle = 0 }, func(c *api.Config) { c.Linger = 1001 }, func(c *api.Config) { c.Fails = -1 },
		func(c *api.Config) { c.Own.B[15] = 1 }, func(c *api.Config) { c.Encap = true },
		func(c *api.Config) { c.Size = math.MinInt },
	} {
		bad := c
		spoil(&bad)
		if table, e := cuckoo.New(f, bad); e != api.ErrArg || table != nil {
			t.Errorf("%d: %v, %d", n, table, e)
		}
	}
	for _, c := range []api.Config{config(1, 2, 1, 1), config(4, 1024, 16, 64), c} {
		table := made(t, hashes(t, c), c)
		if table.Len() != 0 || len(all(table)) != 0 {
			t.Errorf("a new one has %d: %v", table.Len(), all(table))
		}
	}
}

// P16.1: a flow whose places were worked out apart: its first place, its digest, and what was handed in.
func TestWorkedOut(t *testing.T) {
	c := config(2, 256, 8, 8)
	c.Bloom = 1024
	table := made(t, hashes(t, c), c)
	k := api.Key{Proto: api.TCP, Src: addr.V4(10, 0, 0, 1), Dst: addr.V4(10, 0, 0, 2), SrcPort: 80, DstPort: 90}
	put(t, table, k, 3, 9)
	want := found{at(0, 208), api.Cell{Used: true, Digest: 0x1a, Vip: 3, Version: 9}, true}
	if got := find(table, k); got != want {
		t.Errorf("Find: %v, want %v", got, want)
	}
	if got := look(table, k, 3); got != want {
		t.Errorf("Look: %v, want %v", got, want)
	}
	for p, owner := range map[api.Place]api.Key{at(0, 208): k, at(1, 154): {}, at(0, 207): {}, at(2, 208): {}, at(-1, 208): {}, at(0, -1): {}, at(0, 256): {}, at(math.MaxInt, math.MinInt): {}} {
		if got, ok := table.Owner(p); got != owner || ok != (owner != api.Key{}) {
			t.Errorf("Owner of %v: %v, %v", p, got, ok)
		}
	}
}

// P16.1: Look goes by the digest and the VIP alone, Find by the key itself.
func TestLook(t *testing.T) {
	c := config(2, 8, 4, 8)
	f := hashes(t, c)
	table := made(t, f, c)
	k := flow(0)
	first, _ := f.Place(k, 0)
	second, _ := f.Place(k, 1)
	put(t, table, k, 1, 5)
	mine := found{first, api.Cell{Used: true, Digest: f.Digest(k), Vip: 1, Version: 5}, true}
	// one whose first place and digest are the same, of the other VIP it might be
	like := pick(t, 1, both(digested(f, f.Digest(k)), placed(f, first.Index)))
	// and one that shares the place alone
	unlike := pick(t, 0, both(placed(f, first.Index), func(x api.Key) bool { return f.Digest(x) != f.Digest(k) }))
	// and one that has the digest, and the index, but in another stage
	far := pick(t, 0, both(digested(f, f.Digest(k)), func(x api.Key) bool {
		a, _ := f.Place(x, 0)
		b, _ := f.Place(x, 1)
		return a.Index != first.Index && b.Index == first.Index && b != second
	}))
	for _, row := range []struct {
		name string
		got  found
		want found
	}{
		{"itself", look(table, k, 1), mine},
		{"another VIP", look(table, k, 2), found{}},
		{"VIP 0", look(table, k, 0), found{}},
		{"no VIP", look(table, k, -1), found{}},
		{"one that it hits", look(table, like, 1), mine},
		{"one that it would hit, of another VIP", look(table, like, 2), found{}},
		{"another digest", look(table, unlike, 1), found{}},
		{"another place", look(table, far, 1), found{}},
		{"Find itself", find(table, k), mine},
		{"Find one that it hits", find(table, like), found{}},
		{"Find one that shares its place", find(table, unlike), found{}},
	} {
		if row.got != row.want {
			t.Errorf("%s: %v, want %v", row.name, row.got, row.want)
		}
	}
	if wide := uint64(math.MaxUint32) + 2; strconv.IntSize > 32 {
		if got := look(table, k, int(wide)); got != (found{}) {
			t.Errorf("a VIP of more digits: %v", got)
		}
	}
	for _, bad := range notValid() {
		if got, itself := look(table, bad, 1), find(table, bad); got != (found{}) || itself != (found{}) {
			t.Errorf("of what is not Valid: %v, %v", got, itself)
		}
	}
}

// P16.1: of two cells that hit one key, Look tells that of the lowest stage, whoever came first.
func TestLookLowest(t *testing.T) {
	c := config(2, 8, 4, 8)
	f := hashes(t, c)
	k := flow(0)
	first, _ := f.Place(k, 0)
	second, _ := f.Place(k, 1)
	same := digested(f, f.Digest(k))
	low := pick(t, 0, both(same, func(x api.Key) bool {
		return x != k && placed(f, first.Index)(x) && !placed(f, first.Index, second.Index)(x)
	}))
	high := pick(t, 0, both(same, func(x api.Key) bool {
		a, _ := f.Place(x, 0)
		b, _ := f.Place(x, 1)
		return a != first && b == second
	}))
	ahead, _ := f.Place(high, 0)
	block := pick(t, 0, both(placed(f, ahead.Index), func(x api.Key) bool { return f.Digest(x) != f.Digest(k) }))
	for _, order := range [][]api.Key{{low, block, high}, {block, high, low}} {
		table := made(t, f, c)
		for n, x := range order {
			put(t, table, x, 1, n)
		}
		if got, want := look(table, k, 1), find(table, low); got != want || got.p != first {
			t.Errorf("%v, want %v", got, want)
		}
		table.Delete(low)
		if got, want := look(table, k, 1), find(table, high); got != want || got.p != second {
			t.Errorf("then %v, want %v", got, want)
		}
		table.Delete(high)
		if got := look(table, k, 1); got != (found{}) {
			t.Errorf("at last %v", got)
		}
	}
}

// P16.1: Twin: of none, of one, of several the least; wherever they sit; of the same VIP alone; never the key itself.
func TestTwin(t *testing.T) {
	c := config(2, 8, 3, 8)
	f := hashes(t, c)
	k := flow(500)
	first, _ := f.Place(k, 0)
	second, _ := f.Place(k, 1)
	same := digested(f, f.Digest(k))
	// what shares the second place alone sits at its own first one, so that no cell hits k
	apart := both(same, func(x api.Key) bool {
		a, _ := f.Place(x, 0)
		b, _ := f.Place(x, 1)
		return a != first && b == second
	})
	near := both(same, func(x api.Key) bool {
		a, _ := f.Place(x, 0)
		b, _ := f.Place(x, 1)
		return a == first && b != second
	})
	one, two := pick(t, 0, apart), pick(t, 0, near)
	if key.Cmp(one, two) > 0 {
		one, two = two, one
	}
	table := made(t, f, c)
	twin := func(name string, x api.Key, vip int, want ...api.Key) {
		t.Helper()
		stays(t, table, func() {
			got, ok := table.Twin(x, vip)
			if ok != (len(want) == 1) || ok && got != want[0] || !ok && got != (api.Key{}) {
				t.Errorf("%s: %s, %v", name, key.Text(got), ok)
			}
		})
	}
	twin("of an empty one", k, 1)
	put(t, table, two, 1, 0)
	twin("one", k, 1, two)
	twin("another VIP", k, 2)
	twin("no VIP", k, -1)
	twin("of itself", two, 1)
	put(t, table, one, 1, 0)
	twin("the least", k, 1, one)
	put(t, table, k, 2, 0)
	twin("the least, itself of another VIP", k, 1, one)
	twin("itself there", k, 2)
	twin("the other way round", one, 2, k)
	table.Delete(one)
	twin("the one that is left", k, 1, two)
	table.Delete(two)
	twin("none is left", k, 1)
	put(t, table, one, 1, 0)
	put(t, table, two, 1, 0)
	twin("whoever came first", k, 1, one)
	for _, bad := range notValid() {
		twin("what is not Valid", bad, 1)
	}
	for n := range 2 {
		x := pick(t, n, apart)
		table = made(t, f, c)
		put(t, table, x, 1, 0)
		if look(table, k, 1).ok || find(table, x).p == second {
			t.Fatal("it should sit where k may not")
		}
		twin("where k may not sit", k, 1, x)
	}
}

// P16.1: what shares the digest alone, or a place alone, or an index in two stages, is no twin.
func TestNoTwin(t *testing.T) {
	c := config(2, 8, 3, 8)
	f := hashes(t, c)
	k := flow(500)
	first, _ := f.Place(k, 0)
	second, _ := f.Place(k, 1)
	for name, so := range map[string]func(x api.Key) bool{
		"the digest alone": both(digested(f, f.Digest(k)), func(x api.Key) bool {
			a, _ := f.Place(x, 0)
			b, _ := f.Place(x, 1)
			return a != first && b != second
		}),
		"both places alone": both(placed(f, first.Index, second.Index), func(x api.Key) bool { return f.Digest(x) != f.Digest(k) }),
		"the indexes crosswise": both(digested(f, f.Digest(k)), func(x api.Key) bool {
			return first.Index != second.Index && placed(f, second.Index, first.Index)(x)
		}),
	} {
		table := made(t, f, c)
		put(t, table, pick(t, 0, so), 1, 0)
		if x, ok := table.Twin(k, 1); ok || x != (api.Key{}) {
			t.Errorf("%s: %s, %v", name, key.Text(x), ok)
		}
		put(t, table, k, 1, 1)
		if got := look(table, k, 1); got != find(table, k) || !got.ok {
			t.Errorf("%s: k is seen as %v", name, got)
		}
	}
}

// P16.2: what is refused, and as what, where several things hold.
func TestRefused(t *testing.T) {
	c := config(1, 2, 1, 64)
	f := hashes(t, c)
	table := made(t, f, c)
	k := flow(0)
	p, _ := f.Place(k, 0)
	here := placed(f, p.Index)
	twin := pick(t, 1, both(here, digested(f, f.Digest(k))))
	other := pick(t, 0, both(here, digested(f, 1-f.Digest(k))))
	for _, bad := range notValid() {
		refuses(t, table, bad, 0, 0, api.ErrArg)
		refuses(t, table, bad, -1, -1, api.ErrArg)
	}
	for _, low := range []int{-1, math.MinInt, math.MinInt32} {
		refuses(t, table, k, low, 0, api.ErrArg)
		refuses(t, table, k, 0, low, api.ErrArg)
	}
	put(t, table, k, 3, 4)
	refuses(t, table, k, 3, 4, api.ErrHave)
	refuses(t, table, k, 2, 9, api.ErrHave)
	refuses(t, table, k, -1, 4, api.ErrArg)
	refuses(t, table, k, 3, -1, api.ErrArg)
	refuses(t, table, twin, 3, 0, api.ErrArg)
	refuses(t, table, twin, 2, 0, api.ErrFull)
	// one place, taken by one that can go nowhere
	refuses(t, table, other, 3, 0, api.ErrFull)
	refuses(t, table, other, 0, 0, api.ErrFull)
	for _, bad := range notValid() {
		refuses(t, table, bad, 3, 0, api.ErrArg)
	}
	table.Delete(k)
	put(t, table, twin, 3, 0)
	refuses(t, table, k, 3, 4, api.ErrArg)
}

// P16.2: one that is there: ErrHave, even if it has a twin among those of the VIP that is named.
func TestHaveAheadOfTwin(t *testing.T) {
	c := config(2, 4, 2, 8)
	f := hashes(t, c)
	table := made(t, f, c)
	k := flow(0)
	p, _ := f.Place(k, 0)
	twin := pick(t, 1, both(placed(f, p.Index), digested(f, f.Digest(k))))
	put(t, table, k, 1, 0)
	put(t, table, twin, 2, 0)
	refuses(t, table, k, 2, 0, api.ErrHave)
	refuses(t, table, twin, 1, 0, api.ErrHave)
}

// P16.2: numbers as great as they may be stand as they are.
func TestGreat(t *testing.T) {
	c := config(2, 4, 8, 8)
	f := hashes(t, c)
	table := made(t, f, c)
	k := flow(9)
	put(t, table, k, math.MaxInt, math.MaxInt)
	want := api.Cell{Used: true, Digest: f.Digest(k), Vip: math.MaxInt, Version: math.MaxInt}
	if got := look(table, k, math.MaxInt); !got.ok || got.cell != want {
		t.Errorf("%v", got)
	}
	if cell, ok := table.Delete(k); !ok || cell != want {
		t.Errorf("%v, %v", cell, ok)
	}
	put(t, table, k, 0, 0)
	if got := look(table, k, 0); !got.ok || got.cell != (api.Cell{Used: true, Digest: f.Digest(k)}) {
		t.Errorf("%v", got)
	}
}

// chain is a table of two stages of four in which a flow at 0.0 and 1.0 finds room by three moves:
// the row is 0.0, 1.0, 1.1, 0.3, 0.2 and 1.3, which is free.
type chain struct {
	f       *family.Family
	table   *cuckoo.Table
	k       api.Key
	a, e, l api.Key // who is at 0.0, 1.1, 0.2
	g, h    api.Key // who is at 0.3, 1.0: neither can go but where the other one is
}

func chained(t *testing.T, evict int) chain {
	t.Helper()
	c := config(2, 4, 16, evict)
	f := hashes(t, c)
	x := chain{f: f, table: made(t, f, c)}
	x.k, x.a = pick(t, 0, placed(f, 0, 0)), pick(t, 0, placed(f, 0, 1))
	x.e, x.l = pick(t, 0, placed(f, 2, 1)), pick(t, 0, placed(f, 2, 3))
	x.g, x.h = pick(t, 0, placed(f, 3, 0)), pick(t, 1, placed(f, 3, 0))
	for n, k := range []api.Key{x.l, x.e, x.a, x.g, x.h} {
		put(t, x.table, k, 0, n)
	}
	for k, p := range map[api.Key]api.Place{x.l: at(0, 2), x.e: at(1, 1), x.a: at(0, 0), x.g: at(0, 3), x.h: at(1, 0)} {
		if got := find(x.table, k); got.p != p {
			t.Fatalf("%s is at %v, not %v", key.Text(k), got.p, p)
		}
	}
	return x
}

// P16.2: a way of three moves: the last one of the way goes first, each with its cell; the last place that may be looked at is free, and is not.
func TestWay(t *testing.T) {
	for evict := 6; evict <= 64; evict += 29 {
		x := chained(t, evict)
		was := map[api.Key]api.Cell{}
		for _, one := range all(x.table) {
			was[one.k] = one.cell
		}
		moves := []cuckoo.Move{{Key: x.l, From: at(0, 2), To: at(1, 3)}, {Key: x.e, From: at(1, 1), To: at(0, 2)}, {Key: x.a, From: at(0, 0), To: at(1, 1)}}
		put(t, x.table, x.k, 7, 8, moves...)
		want := []held{
			{at(0, 0), x.k, api.Cell{Used: true, Digest: x.f.Digest(x.k), Vip: 7, Version: 8}},
			{at(0, 2), x.e, was[x.e]}, {at(0, 3), x.g, was[x.g]},
			{at(1, 0), x.h, was[x.h]}, {at(1, 1), x.a, was[x.a]}, {at(1, 3), x.l, was[x.l]},
		}
		if got := all(x.table); !slices.Equal(got, want) || x.table.Len() != 6 {
			t.Errorf("Evict %d: %v, want %v", evict, got, want)
		}
	}
	x := chained(t, 5)
	refuses(t, x.table, x.k, 7, 8, api.ErrFull)
	for evict := 4; evict > 2; evict-- {
		x := chained(t, evict)
		refuses(t, x.table, x.k, 7, 8, api.ErrFull)
	}
}

// P16.2: the row is empty ahead of Evict places: each place of those that can be reached is taken.
func TestRowEmpty(t *testing.T) {
	x := chained(t, 64)
	// at 0.3 and 1.0, where g and h are, who can go nowhere else
	third := pick(t, 2, placed(x.f, 3, 0))
	refuses(t, x.table, third, 0, 0, api.ErrFull)
	x.table.Delete(x.h)
	put(t, x.table, third, 0, 0)
	refuses(t, x.table, x.h, 0, 0, api.ErrFull)
	// the place ahead of it is free again, and nobody need go
	x.table.Delete(x.g)
	put(t, x.table, x.h, 0, 0)
	if got := find(x.table, x.h); got.p != at(0, 3) {
		t.Errorf("%v", got)
	}
}

// P16.2: Evict of 1: the first place alone is looked at, however free the second one is.
func TestEvictOne(t *testing.T) {
	c := config(4, 4, 16, 1)
	f := hashes(t, c)
	table := made(t, f, c)
	one, two, three := pick(t, 0, placed(f, 2, 0)), pick(t, 0, placed(f, 2, 1)), pick(t, 0, placed(f, 3, 0))
	put(t, table, one, 0, 0)
	refuses(t, table, two, 0, 0, api.ErrFull)
	put(t, table, three, 0, 0)
	if a, b := find(table, one), find(table, three); a.p != at(0, 2) || b.p != at(0, 3) {
		t.Errorf("%v, %v", a, b)
	}
	table.Delete(one)
	put(t, table, two, 0, 0)
}

// P16.2: the key's own places come first, stage by stage; then those of who is at the first one, ahead of those of who is at the second one.
func TestBreadth(t *testing.T) {
	c := config(3, 4, 16, 64)
	f := hashes(t, c)
	table := made(t, f, c)
	// who sits at 0.0, 1.0 and 2.0 may all go to 2.1 or 1.1
	zero := pick(t, 0, placed(f, 0, 2, 1))
	one := pick(t, 0, placed(f, 0, 0, 1))
	two := pick(t, 0, placed(f, 0, 0, 0))
	put(t, table, zero, 0, 0)
	put(t, table, one, 0, 1)
	put(t, table, two, 0, 2)
	if got := []api.Place{find(table, zero).p, find(table, one).p, find(table, two).p}; !slices.Equal(got, []api.Place{at(0, 0), at(1, 0), at(2, 0)}) {
		t.Fatalf("%v", got)
	}
	// one place, 2.1, is come to by two ways: from 0.0 (behind 1.2) and from 1.0. It is who was put in the row first that goes.
	block := pick(t, 0, placed(f, 3, 2, 0))
	wall := pick(t, 0, placed(f, 3, 3, 0))
	put(t, table, wall, 0, 3)
	put(t, table, block, 0, 4)
	if got := find(table, block).p; got != at(1, 2) {
		t.Fatalf("%v", got)
	}
	k := pick(t, 1, placed(f, 0, 0, 0))
	put(t, table, k, 0, 5, cuckoo.Move{Key: zero, From: at(0, 0), To: at(2, 1)})
	if got := find(table, k).p; got != at(0, 0) {
		t.Errorf("%v", got)
	}
	// now k at 0.0, one at 1.0 and two at 2.0: one's 2.1 is taken by zero, who can go nowhere but to 0.0 and 1.2, where block is, who may go to 0.3, where wall is, who may go to 1.3
	next := pick(t, 2, placed(f, 0, 0, 0))
	put(t, table, next, 0, 6,
		cuckoo.Move{Key: wall, From: at(0, 3), To: at(1, 3)}, cuckoo.Move{Key: block, From: at(1, 2), To: at(0, 3)},
		cuckoo.Move{Key: zero, From: at(2, 1), To: at(1, 2)}, cuckoo.Move{Key: one, From: at(1, 0), To: at(2, 1)})
	if got := find(table, next).p; got != at(1, 0) {
		t.Errorf("%v", got)
	}
}

// P16.2: a place that two ways come to stands in the row once, by the way that came first, so that six places are enough:
// 0.0, 1.0 and 2.0, which are k's; 1.1 and 2.1 of who is at 0.0; who is at 1.0 may go to 2.1, too; 0.2 of who is at 2.1.
func TestTwoWays(t *testing.T) {
	for evict, want := range map[int]api.Errno{5: api.ErrFull, 6: api.OK, 7: api.OK} {
		c := config(3, 4, 16, evict)
		f := hashes(t, c)
		table := made(t, f, c)
		zero, next := pick(t, 0, placed(f, 0, 1, 1)), pick(t, 1, placed(f, 0, 1, 1))
		block, last := pick(t, 0, placed(f, 2, 2, 2)), pick(t, 0, placed(f, 2, 1, 1))
		one, two := pick(t, 0, placed(f, 0, 0, 1)), pick(t, 0, placed(f, 0, 0, 0))
		for _, k := range []api.Key{zero, next, block, last, one, two} {
			put(t, table, k, 0, 1)
		}
		table.Delete(block)
		where := []api.Place{at(0, 0), at(1, 1), {}, at(2, 1), at(1, 0), at(2, 0)}
		for n, k := range []api.Key{zero, next, block, last, one, two} {
			if got := find(table, k).p; got != where[n] {
				t.Fatalf("%d is at %v, not %v", n, got, where[n])
			}
		}
		k := pick(t, 1, placed(f, 0, 0, 0))
		if want != api.OK {
			refuses(t, table, k, 0, 2, want)
			continue
		}
		put(t, table, k, 0, 2, cuckoo.Move{Key: last, From: at(2, 1), To: at(0, 2)}, cuckoo.Move{Key: zero, From: at(0, 0), To: at(2, 1)})
	}
}

// P16.2: ways of no moves, of one and of two, in tables of two stages.
func TestShortWays(t *testing.T) {
	c := config(2, 4, 16, 64)
	f := hashes(t, c)
	table := made(t, f, c)
	one, two, three := pick(t, 0, placed(f, 0, 0)), pick(t, 0, placed(f, 0, 1)), pick(t, 1, placed(f, 0, 1))
	put(t, table, one, 0, 1)
	put(t, table, two, 0, 2)
	put(t, table, three, 0, 3, cuckoo.Move{Key: one, From: at(0, 0), To: at(1, 0)})
	four := pick(t, 2, placed(f, 0, 1))
	// each place that 0.0 and 1.1 lead to is taken by one that may go to these alone
	refuses(t, table, four, 0, 4, api.ErrFull)
	table.Delete(two)
	put(t, table, four, 0, 4)
	table.Delete(three)
	// 0.0 is free, then taken by one who may go to 1.2
	five, six := pick(t, 0, placed(f, 0, 2)), pick(t, 0, placed(f, 3, 0))
	put(t, table, five, 0, 5)
	block := pick(t, 0, placed(f, 3, 3))
	put(t, table, block, 0, 6)
	// the row: 0.3 and 1.0, 1.3 of who is at 0.3: free
	put(t, table, six, 0, 7, cuckoo.Move{Key: block, From: at(0, 3), To: at(1, 3)})
	// the row: 0.3 and 1.3, 1.0 of six, nothing new of block, then 0.0 of one, then 1.2 of five
	seven := pick(t, 1, placed(f, 3, 3))
	put(t, table, seven, 0, 8,
		cuckoo.Move{Key: five, From: at(0, 0), To: at(1, 2)}, cuckoo.Move{Key: one, From: at(1, 0), To: at(0, 0)}, cuckoo.Move{Key: six, From: at(0, 3), To: at(1, 0)})
	// the row: 0.0 and 1.3; 1.0 of one; 0.3 of block; 0.3 was put: then nothing of six, nothing of seven
	eight := pick(t, 0, placed(f, 0, 3))
	refuses(t, table, eight, 0, 9, api.ErrFull)
}

// P16.3: Delete: the cell and true, then false; the place is free then, for others and for the same one.
func TestDelete(t *testing.T) {
	c := config(2, 4, 4, 8)
	f := hashes(t, c)
	table := made(t, f, c)
	k := flow(0)
	p, _ := f.Place(k, 0)
	twin := pick(t, 1, both(placed(f, p.Index), digested(f, f.Digest(k))))
	if cell, ok := table.Delete(k); ok || cell != (api.Cell{}) {
		t.Errorf("of none: %v, %v", cell, ok)
	}
	for version := range 3 {
		put(t, table, k, 1, version)
		stays(t, table, func() {
			for _, x := range append(notValid(), twin) {
				if cell, ok := table.Delete(x); ok || cell != (api.Cell{}) {
					t.Errorf("of another one: %v, %v", cell, ok)
				}
			}
		})
		want := api.Cell{Used: true, Digest: f.Digest(k), Vip: 1, Version: version}
		if cell, ok := table.Delete(k); !ok || cell != want || table.Len() != 0 {
			t.Errorf("%v, %v, want %v; %d are left", cell, ok, want, table.Len())
		}
		if cell, ok := table.Delete(k); ok || cell != (api.Cell{}) || table.Len() != 0 {
			t.Errorf("twice: %v, %v; %d are left", cell, ok, table.Len())
		}
		if owner, ok := table.Owner(p); ok || owner != (api.Key{}) || find(table, k).ok || look(table, k, 1).ok || len(all(table)) != 0 {
			t.Errorf("it is there still: %v", owner)
		}
		put(t, table, twin, 1, version)
		if cell, ok := table.Delete(twin); !ok || cell != want {
			t.Errorf("its twin: %v, %v", cell, ok)
		}
	}
}

// P16.3: Cells: by place; of none, of some; left off at any place, and walked anew, also one walk within another; Len is as many.
func TestCells(t *testing.T) {
	c := config(4, 8, 16, 64)
	f := hashes(t, c)
	table := made(t, f, c)
	for range table.Cells() {
		t.Error("a cell of none")
	}
	walk := table.Cells()
	for n, k := range flows(20) {
		puts(t, table, k, n)
	}
	want := all(table)
	if len(want) != 20 || table.Len() != 20 || !slices.IsSortedFunc(want, func(a, b held) int {
		if a.p.Stage != b.p.Stage {
			return a.p.Stage - b.p.Stage
		}
		return a.p.Index - b.p.Index
	}) {
		t.Fatalf("not by place: %v", want)
	}
	for stop := 1; stop <= len(want)+1; stop++ {
		n := 0
		for p, cell := range walk {
			if p != want[n].p || cell != want[n].cell {
				t.Errorf("%d of %d: %v, %v", n, stop, p, cell)
			}
			inner := 0
			for range walk {
				inner++
			}
			if inner != len(want) {
				t.Errorf("within: %d", inner)
			}
			if n++; n == stop {
				break
			}
		}
		if n != min(stop, len(want)) {
			t.Errorf("%d of %d", n, stop)
		}
	}
}

// puts puts one in wherever it goes.
func puts(t *testing.T, table *cuckoo.Table, k api.Key, n int) {
	t.Helper()
	if _, e := table.Insert(k, n%5, n); e != api.OK {
		t.Fatalf("%s: %d", key.Text(k), e)
	}
}

// P16.3: a table that is changed under a walk of its cells: nothing panics, and each cell that is told is one's.
func TestChangedUnderWalk(t *testing.T) {
	c := config(2, 8, 16, 8)
	f := hashes(t, c)
	table := made(t, f, c)
	for n, k := range flows(6) {
		puts(t, table, k, n)
	}
	for p := range table.Cells() {
		k, ok := table.Owner(p)
		if !ok {
			t.Errorf("nobody at %v", p)
		}
		table.Delete(k)
	}
	if table.Len() != 0 {
		t.Errorf("%d are left", table.Len())
	}
	for range table.Cells() {
		t.Error("a cell is left")
	}
}

// P16.3: a nil Table, in each of its calls; and one that New did not make panics in none, either.
func TestNil(t *testing.T) {
	for _, table := range []*cuckoo.Table{nil, {}} {
		for _, k := range append(notValid(), flow(0), flow(3)) {
			moves, e := table.Insert(k, 1, 2)
			if e == api.OK || len(moves) != 0 || table == nil && e != api.ErrArg {
				t.Errorf("Insert: %v, %d", moves, e)
			}
			if got := look(table, k, 1); got != (found{}) {
				t.Errorf("Look: %v", got)
			}
			if got := find(table, k); got != (found{}) {
				t.Errorf("Find: %v", got)
			}
			if x, ok := table.Twin(k, 1); ok || x != (api.Key{}) {
				t.Errorf("Twin: %v, %v", x, ok)
			}
			if cell, ok := table.Delete(k); ok || cell != (api.Cell{}) {
				t.Errorf("Delete: %v, %v", cell, ok)
			}
		}
		if x, ok := table.Owner(at(0, 0)); ok || x != (api.Key{}) {
			t.Errorf("Owner: %v, %v", x, ok)
		}
		for range table.Cells() {
			t.Error("a cell")
		}
		if table.Len() != 0 {
			t.Errorf("Len: %d", table.Len())
		}
	}
}

// P16.4: Moves that were answered are their holder's: what he does with them changes no table and no later answer.
func TestMovesAreNew(t *testing.T) {
	x, y := chained(t, 64), chained(t, 64)
	moves, e := x.table.Insert(x.k, 0, 9)
	same, _ := y.table.Insert(y.k, 0, 9)
	if e != api.OK || len(moves) != 3 {
		t.Fatalf("%v, %d", moves, e)
	}
	for n := range moves {
		moves[n] = cuckoo.Move{Key: flow(77), From: at(1, 2), To: at(1, 2)}
	}
	moves = append(moves[:0], moves[1:]...)
	if len(same) != 3 || same[0].Key != y.l || len(moves) != 2 {
		t.Errorf("another table's: %v", same)
	}
	if a, b := all(x.table), all(y.table); !slices.Equal(a, b) {
		t.Errorf("%v, want %v", a, b)
	}
	for n := range 200 {
		k := flow(n)
		a, d := x.table.Insert(k, 0, n)
		b, e := y.table.Insert(k, 0, n)
		if d != e || !slices.Equal(a, b) {
			t.Fatalf("then %s: %v, %d, want %v, %d", key.Text(k), a, d, b, e)
		}
		clear(a)
		if n%3 == 0 {
			x.table.Delete(k)
			y.table.Delete(k)
		}
	}
	if a, b := all(x.table), all(y.table); !slices.Equal(a, b) {
		t.Errorf("at last %v, want %v", a, b)
	}
}

// P16.4: two tables, also of one family, know nothing of each other.
func TestTwoTables(t *testing.T) {
	c := config(2, 4, 4, 8)
	f := hashes(t, c)
	one, two := made(t, f, c), made(t, f, c)
	k := flow(0)
	put(t, one, k, 1, 2)
	if two.Len() != 0 || find(two, k).ok || look(two, k, 1).ok || len(all(two)) != 0 {
		t.Errorf("%v", all(two))
	}
	put(t, two, k, 3, 4)
	stays(t, one, func() { two.Delete(k) })
	if got := find(one, k); !got.ok || got.cell.Vip != 1 || got.cell.Version != 2 {
		t.Errorf("%v", got)
	}
}
