package bloom_test

import (
	"maps"
	"math"
	"slices"
	"strconv"
	"testing"

	"bazaar/addr"
	"bazaar/api"
	"bazaar/bloom"
	"bazaar/family"
	"bazaar/key"
)

// config is one with a filter of so many bits and hashes.
func config(bits, hashes int, seed uint32) api.Config {
	return api.Config{Stages: 2, Size: 256, Digest: 8, Bloom: bits, Hashes: hashes, Slots: 8, Versions: 4, Queue: 16, Evict: 8, Idle: 30, Linger: 2, Fails: 3, Seed: seed}
}

// configs is filters of the fewest bits, of the most, and between, each number of hashes among them, with several seeds.
func configs() []api.Config {
	return []api.Config{
		config(1024, 2, 7), config(64, 2, 7), config(8, 1, 0), config(8, 4, 1), config(512, 3, 0x80000000),
		config(2048, 4, 99), config(65536, 1, math.MaxUint32), config(65536, 4, 12345),
	}
}

// sizes is filters of a few bits, and of many; powers of two and others; around a word's bounds.
func sizes() []int {
	return []int{1, 2, 3, 7, 8, 31, 63, 64, 65, 100, 127, 128, 129, 500, 512, 1000, 1024, 1025, 40000, 65535, 65536}
}

func hashes(t *testing.T, c api.Config) *family.Family {
	t.Helper()
	f, e := family.New(c)
	if e != api.OK || f == nil {
		t.Fatalf("no family of %+v: %d", c, e)
	}
	return f
}

// made is New of what may be.
func made(t *testing.T, f *family.Family, bits int) *bloom.Filter {
	t.Helper()
	b, e := bloom.New(f, bits)
	if e != api.OK || b == nil {
		t.Fatalf("New of %d bits: %v, %d", bits, b, e)
	}
	return b
}

// each runs a test with a family of each configuration, and each size.
func each(t *testing.T, test func(t *testing.T, f *family.Family, bits int)) {
	for _, c := range configs() {
		f := hashes(t, c)
		for _, bits := range sizes() {
			t.Run(strconv.Itoa(c.Bloom)+" by "+strconv.Itoa(c.Hashes)+" to "+strconv.Itoa(bits), func(t *testing.T) { test(t, f, bits) })
		}
	}
}

// four and six are the flows whose places are written out below.
func four() api.Key {
	return api.Key{Proto: api.TCP, Src: addr.V4(10, 0, 0, 1), Dst: addr.V4(10, 0, 0, 2), SrcPort: 80, DstPort: 90}
}

func six() api.Key {
	src := api.Addr{V6: true, B: [16]byte{0x20, 1, 0x0d, 0xb8, 15: 1}}
	dst := api.Addr{V6: true, B: [16]byte{0xfd, 15: 2}}
	return api.Key{Proto: api.UDP, Src: src, Dst: dst, SrcPort: 0xfffe, DstPort: 53}
}

// keys is flows of both kinds and of both protocols, all Valid, no two the same.
func keys() []api.Key {
	out := []api.Key{four(), six(), {Proto: api.TCP}, {Proto: api.UDP}}
	for _, proto := range []byte{api.TCP, api.UDP} {
		out = append(out, api.Key{Proto: proto, Src: api.Addr{V6: true}, Dst: api.Addr{V6: true}, SrcPort: 65535, DstPort: 65535})
		for n := range 25 {
			a, p := byte(n*13), uint16(n*3331)
			out = append(out,
				api.Key{Proto: proto, Src: addr.V4(10, a, 0, 1), Dst: addr.V4(192, 168, 0, a), SrcPort: p, DstPort: 80},
				api.Key{Proto: proto, Src: api.Addr{V6: true, B: [16]byte{0x20, a, 7: a}}, Dst: api.Addr{V6: true, B: [16]byte{15: a}}, SrcPort: 80, DstPort: p},
			)
		}
	}
	return out
}

// notValid is flows that nobody has bits of.
func notValid() []api.Key {
	change := func(k api.Key, do func(k *api.Key)) api.Key {
		do(&k)
		return k
	}
	return []api.Key{
		{},
		change(four(), func(k *api.Key) { k.Proto = 1 }),
		change(four(), func(k *api.Key) { k.Proto = 0 }),
		change(six(), func(k *api.Key) { k.Proto = 255 }),
		change(four(), func(k *api.Key) { k.Src = six().Src }),
		change(four(), func(k *api.Key) { k.Dst = six().Dst }),
		change(six(), func(k *api.Key) { k.Src = four().Src }),
		change(six(), func(k *api.Key) { k.Dst = four().Dst }),
		change(four(), func(k *api.Key) { k.Src.B[15] = 1 }),
		change(four(), func(k *api.Key) { k.Dst.B[4] = 1 }),
		change(six(), func(k *api.Key) { k.Src.V6, k.Dst.V6 = false, false }),
	}
}

// filter is what a Filter should be, told by a map of places.
type filter struct {
	f    *family.Family
	bits int
	set  map[int]bool
}

func should(f *family.Family, bits int) *filter {
	return &filter{f: f, bits: bits, set: map[int]bool{}}
}

// missing is how many of a key's places are not set.
func (w *filter) missing(k api.Key) int {
	not := map[int]bool{}
	for _, n := range w.f.Bits(k) {
		if !w.set[n%w.bits] {
			not[n%w.bits] = true
		}
	}
	return len(not)
}

func (w *filter) has(k api.Key) bool {
	return key.Valid(k) && w.missing(k) == 0
}

func (w *filter) insert(k api.Key) bool {
	anew := w.missing(k) > 0
	for _, n := range w.f.Bits(k) {
		w.set[n%w.bits] = true
	}
	return anew
}

// check holds a Filter's places, and who is there, against what should be.
func (w *filter) check(t *testing.T, what string, b *bloom.Filter) {
	t.Helper()
	want := slices.Sorted(maps.Keys(w.set))
	if got := slices.Collect(b.Ones()); !slices.Equal(got, want) {
		t.Fatalf("%s: ones %d; want %d", what, got, want)
	}
	if got := b.Count(); got != len(want) {
		t.Fatalf("%s: count %d; want %d", what, got, len(want))
	}
	for _, k := range append(keys(), notValid()...) {
		if got := b.Has(k); got != w.has(k) {
			t.Fatalf("%s: %q is there: %v", what, key.Text(k), got)
		}
	}
}

// P14.1: ErrArg of a nil family, of too few bits, of too many; each other number may be.
func TestNew(t *testing.T) {
	f := hashes(t, config(64, 2, 7))
	for bits := 1; bits <= 65536; bits++ {
		if b, e := bloom.New(f, bits); e != api.OK || b == nil {
			t.Fatalf("%d bits: %v, %d", bits, b, e)
		}
	}
	for _, bits := range []int{0, -1, -2, -64, -65536, -65537, 65537, 65538, 65600, 131072, 1 << 20, 1 << 30, -1 << 30, math.MinInt, math.MinInt + 1, math.MaxInt - 1, math.MaxInt} {
		if b, e := bloom.New(f, bits); e != api.ErrArg || b != nil {
			t.Errorf("%d bits: %v, %d", bits, b, e)
		}
	}
	for _, bits := range []int{math.MinInt, -1, 0, 1, 8, 64, 65536, 65537, math.MaxInt} {
		if b, e := bloom.New(nil, bits); e != api.ErrArg || b != nil {
			t.Errorf("nil family, %d bits: %v, %d", bits, b, e)
		}
	}
}

// P14.1: numbers that the low digits alone would let pass.
func TestNewWrapped(t *testing.T) {
	if math.MaxInt == math.MaxInt32 {
		t.Skip("an int has no more digits")
	}
	f := hashes(t, config(64, 2, 7))
	for _, digits := range []int{17, 20, 32, 40, 62} {
		for _, bits := range []int{64 + 1<<digits, 64 - 1<<digits, 1 << digits} {
			if b, e := bloom.New(f, bits); e != api.ErrArg || b != nil {
				t.Errorf("%d bits: %v, %d", bits, b, e)
			}
		}
	}
}

// P14.1: of a new one none is set, so nobody is there.
func TestNewIsBlank(t *testing.T) {
	each(t, func(t *testing.T, f *family.Family, bits int) {
		should(f, bits).check(t, "new", made(t, f, bits))
	})
}

// P14.1: many, one after the other, each asked for ahead of it and behind.
func TestInsert(t *testing.T) {
	each(t, func(t *testing.T, f *family.Family, bits int) {
		b, want := made(t, f, bits), should(f, bits)
		for i, k := range keys() {
			if got := b.Has(k); got != want.has(k) {
				t.Fatalf("%d: there ahead of it: %v", i, got)
			}
			if got, anew := b.Insert(k), want.insert(k); got != anew {
				t.Fatalf("%d: inserted anew: %v; want %v", i, got, anew)
			}
			if !b.Has(k) || b.Insert(k) {
				t.Fatalf("%d: not there, or anew for the second time", i)
			}
			if i%10 == 0 {
				want.check(t, strconv.Itoa(i), b)
			}
		}
		want.check(t, "in the end", b)
	})
}

// P14.1: the places of two flows, worked out apart: of 1024, by two hashes of seed 7, the first one's are 328 254, the second one's 952 144.
func TestWrittenOut(t *testing.T) {
	cases := []struct {
		bits       int
		four, both []int
		there      bool // the second one, when the first one is
	}{
		{65536, []int{254, 328}, []int{144, 254, 328, 952}, false},
		{1024, []int{254, 328}, []int{144, 254, 328, 952}, false},
		{1000, []int{254, 328}, []int{144, 254, 328, 952}, false},
		{300, []int{28, 254}, []int{28, 52, 144, 254}, false},
		{100, []int{28, 54}, []int{28, 44, 52, 54}, false},
		{64, []int{8, 62}, []int{8, 16, 56, 62}, false},
		{37, []int{32}, []int{27, 32, 33}, false},
		{2, []int{0}, []int{0}, true},
		{1, []int{0}, []int{0}, true},
	}
	f := hashes(t, config(1024, 2, 7))
	for _, c := range cases {
		b := made(t, f, c.bits)
		if anew := b.Insert(four()); !anew || !slices.Equal(slices.Collect(b.Ones()), c.four) || b.Count() != len(c.four) {
			t.Errorf("%d bits: %v, %d; want %d", c.bits, anew, slices.Collect(b.Ones()), c.four)
		}
		if there := b.Has(six()); there != c.there {
			t.Errorf("%d bits: the second one is there: %v", c.bits, there)
		}
		if anew := b.Insert(six()); anew == c.there || !slices.Equal(slices.Collect(b.Ones()), c.both) || b.Count() != len(c.both) {
			t.Errorf("%d bits: %v, %d; want %d", c.bits, anew, slices.Collect(b.Ones()), c.both)
		}
	}
}

// P14.1: who has some places set, but not all, is not there, and inserted anew; who has all is there, though nobody inserted it.
func TestSomeSet(t *testing.T) {
	some, all := 0, 0
	for _, c := range configs() {
		f := hashes(t, c)
		for _, bits := range []int{2, 8, 64, 100} {
			b, want := made(t, f, bits), should(f, bits)
			for _, k := range keys() {
				places := map[int]bool{}
				for _, n := range f.Bits(k) {
					places[n%bits] = true
				}
				missing := want.missing(k)
				if missing == 0 {
					all++
				} else if missing < len(places) {
					some++
				}
				if there, anew := b.Has(k), b.Insert(k); there != (missing == 0) || anew == there {
					t.Errorf("%d of %d bits, %s: %d not set: %v, %v", bits, c.Bloom, key.Text(k), missing, there, anew)
				}
				want.insert(k)
			}
		}
	}
	if some < 100 || all < 100 {
		t.Errorf("some set: %d, all set: %d: too few for this test", some, all)
	}
}

// P14.1, the document's example: one inserted sets at most Hashes places, at least one, all within the bits.
func TestOneInserted(t *testing.T) {
	for _, c := range configs() {
		f := hashes(t, c)
		for _, bits := range sizes() {
			b := made(t, f, bits)
			for _, k := range keys() {
				b.Clear()
				b.Insert(k)
				if n := b.Count(); n < 1 || n > c.Hashes {
					t.Errorf("%d bits, %s: %d places of %d hashes", bits, key.Text(k), n, c.Hashes)
				}
				for n := range b.Ones() {
					if n < 0 || n >= bits || n >= c.Bloom {
						t.Errorf("%d bits, %s: place %d", bits, key.Text(k), n)
					}
				}
			}
		}
	}
}

// P14.1: in a filter of one bit everybody Valid is there, when one was inserted.
func TestOneBit(t *testing.T) {
	for _, c := range configs() {
		for _, first := range keys() {
			b := made(t, hashes(t, c), 1)
			if b.Has(first) || !b.Insert(first) {
				t.Fatalf("%s: there in a new one", key.Text(first))
			}
			for _, k := range keys() {
				if !b.Has(k) || b.Insert(k) {
					t.Errorf("%s: not there behind %s", key.Text(k), key.Text(first))
				}
			}
			for _, k := range notValid() {
				if b.Has(k) || b.Insert(k) {
					t.Errorf("%+v: there", k)
				}
			}
			if b.Count() != 1 || !slices.Equal(slices.Collect(b.Ones()), []int{0}) {
				t.Errorf("%d places: %d", b.Count(), slices.Collect(b.Ones()))
			}
		}
	}
}

// P14.1: what is not Valid is never there, whatever is, and inserting it sets nothing.
func TestNotValid(t *testing.T) {
	each(t, func(t *testing.T, f *family.Family, bits int) {
		b, want := made(t, f, bits), should(f, bits)
		for range 2 {
			for _, k := range notValid() {
				if b.Has(k) || b.Insert(k) || b.Has(k) {
					t.Errorf("%+v: there, or anew", k)
				}
			}
			want.check(t, "what is not Valid", b)
			for _, k := range keys() {
				b.Insert(k)
				want.insert(k)
			}
		}
	})
}

// P14.2: who was inserted is there, however many follow, up to a filter whose places are all set.
func TestAllThere(t *testing.T) {
	for _, c := range configs() {
		for _, bits := range []int{1, 8, 63, 100, 1024, 65536} {
			b := made(t, hashes(t, c), bits)
			var in []api.Key
			for n := range 600 {
				k := api.Key{Proto: api.TCP, Src: addr.V4(172, 16, byte(n>>8), byte(n)), Dst: addr.V4(10, 0, 0, 9), SrcPort: uint16(n * 101), DstPort: 443}
				b.Insert(k)
				in = append(in, k)
				if n%60 != 0 && n != 599 {
					continue
				}
				for i, k := range in {
					if !b.Has(k) {
						t.Fatalf("%d bits: %d is not there behind %d", bits, i, n)
					}
				}
			}
			if bits <= 8 && c.Bloom >= bits && b.Count() != bits {
				t.Errorf("%d bits: %d are set behind so many", bits, b.Count())
			}
		}
	}
}

// P14.1: whichever order they come in, the same places are set.
func TestAnyOrder(t *testing.T) {
	each(t, func(t *testing.T, f *family.Family, bits int) {
		a, b := made(t, f, bits), made(t, f, bits)
		all := keys()
		for i, k := range all {
			a.Insert(k)
			b.Insert(all[len(all)-1-i])
		}
		if !slices.Equal(slices.Collect(a.Ones()), slices.Collect(b.Ones())) || a.Count() != b.Count() {
			t.Errorf("ones %d; in the other order %d", slices.Collect(a.Ones()), slices.Collect(b.Ones()))
		}
	})
}

// P14.1, P14.2: behind Clear none is set and nobody is there, until it is inserted again.
func TestClear(t *testing.T) {
	each(t, func(t *testing.T, f *family.Family, bits int) {
		b := made(t, f, bits)
		all := keys()
		for round := range 3 {
			for _, k := range all {
				b.Insert(k)
			}
			b.Clear()
			want := should(f, bits)
			want.check(t, "cleared", b)
			b.Clear()
			want.check(t, "cleared twice", b)
			for _, k := range all[round*10 : round*10+5] {
				if got, anew := b.Insert(k), want.insert(k); got != anew {
					t.Errorf("behind Clear, %s: anew: %v; want %v", key.Text(k), got, anew)
				}
			}
			want.check(t, "behind Clear", b)
		}
	})
}

// P14.1: Clear of what is new changes nothing.
func TestClearNew(t *testing.T) {
	for _, bits := range sizes() {
		f := hashes(t, config(1024, 2, 7))
		b := made(t, f, bits)
		b.Clear()
		should(f, bits).check(t, "cleared", b)
	}
}

// P14.1: the places at the bounds of words, and those beside them, one by one.
func TestEachPlace(t *testing.T) {
	f := hashes(t, config(512, 1, 3))
	from := map[int]api.Key{}
	for n := range 20000 {
		k := api.Key{Proto: api.UDP, Src: addr.V4(10, 1, byte(n>>8), byte(n)), Dst: addr.V4(10, 0, 0, 2), SrcPort: 5, DstPort: 53}
		from[f.Bits(k)[0]] = k
	}
	if len(from) != 512 {
		t.Fatalf("of %d places alone there is a flow", len(from))
	}
	for _, bits := range []int{512, 600, 65536} {
		b := made(t, f, bits)
		for n := range 512 {
			b.Clear()
			if !b.Insert(from[n]) || b.Count() != 1 || !slices.Equal(slices.Collect(b.Ones()), []int{n}) {
				t.Errorf("%d bits, place %d: %d", bits, n, slices.Collect(b.Ones()))
			}
			for m := range 512 {
				if b.Has(from[m]) != (m == n) {
					t.Errorf("%d bits: place %d is set; of place %d: %v", bits, n, m, b.Has(from[m]))
				}
			}
		}
	}
}

// P14.1: a filter that is full has all its places, one behind the other.
func TestAllSet(t *testing.T) {
	f := hashes(t, config(512, 4, 3))
	for _, bits := range []int{1, 5, 63, 64, 65, 128, 129, 511, 512} {
		b := made(t, f, bits)
		for n := range 4000 {
			b.Insert(api.Key{Proto: api.TCP, Src: addr.V4(10, 1, byte(n>>8), byte(n)), Dst: addr.V4(10, 0, 0, 2), SrcPort: 5, DstPort: 53})
		}
		want := 0
		for n := range b.Ones() {
			if n != want {
				t.Fatalf("%d bits: place %d; want %d", bits, n, want)
			}
			want++
		}
		if want != bits || b.Count() != bits {
			t.Errorf("%d bits: %d places, count %d", bits, want, b.Count())
		}
	}
}

// P14.1: a walk that is left off at any place, and the same one walked anew.
func TestOnesLeftOff(t *testing.T) {
	each(t, func(t *testing.T, f *family.Family, bits int) {
		b := made(t, f, bits)
		for _, k := range keys()[:20] {
			b.Insert(k)
		}
		walk := b.Ones()
		want := slices.Collect(walk)
		if len(want) == 0 || len(want) != b.Count() || !slices.IsSorted(want) || len(slices.Compact(slices.Clone(want))) != len(want) {
			t.Fatalf("ones %d, count %d", want, b.Count())
		}
		for most := 1; most <= len(want); most++ {
			var got []int
			for n := range walk {
				if got = append(got, n); len(got) == most {
					break
				}
			}
			if !slices.Equal(got, want[:most]) {
				t.Fatalf("left off behind %d: %d; want %d", most, got, want[:most])
			}
		}
		if again := slices.Collect(walk); !slices.Equal(again, want) {
			t.Errorf("walked anew: %d; want %d", again, want)
		}
	})
}

// P14.1: one walk within the other, of one Ones: neither knows of the other.
func TestOnesTwice(t *testing.T) {
	b := made(t, hashes(t, config(1024, 4, 7)), 300)
	for _, k := range keys()[:10] {
		b.Insert(k)
	}
	walk := b.Ones()
	want := slices.Collect(walk)
	var got []int
	for n := range walk {
		got = append(got, n)
		if within := slices.Collect(walk); !slices.Equal(within, want) {
			t.Errorf("within: %d; want %d", within, want)
		}
	}
	if !slices.Equal(got, want) {
		t.Errorf("without: %d; want %d", got, want)
	}
}

// P14.1: of none no walk tells anything; none is nobody's, too.
func TestOnesOfNone(t *testing.T) {
	for _, bits := range sizes() {
		b := made(t, hashes(t, config(64, 2, 7)), bits)
		for n := range b.Ones() {
			t.Errorf("%d bits: place %d", bits, n)
		}
	}
}

// Every call ends: a walk under which the filter is changed, too, and what it tells is rising.
func TestOnesChanged(t *testing.T) {
	for _, bits := range sizes() {
		b := made(t, hashes(t, config(1024, 4, 7)), bits)
		for _, do := range []func(k api.Key){func(k api.Key) { b.Insert(k) }, func(api.Key) { b.Clear() }} {
			all := keys()
			b.Insert(all[0])
			last, told := -1, 0
			for n := range b.Ones() {
				if n <= last || n >= bits {
					t.Fatalf("%d bits: place %d behind %d", bits, n, last)
				}
				last = n
				told++
				do(all[told%len(all)])
			}
			if told == 0 {
				t.Errorf("%d bits: no place is told", bits)
			}
		}
	}
}

// P14.2: a nil Filter: nobody is there, nothing is set, and Clear does nothing.
func TestNil(t *testing.T) {
	var none *bloom.Filter
	for range 2 {
		for _, k := range append(keys(), notValid()...) {
			if none.Has(k) || none.Insert(k) || none.Has(k) {
				t.Errorf("%+v: there, or anew", k)
			}
		}
		for n := range none.Ones() {
			t.Errorf("place %d", n)
		}
		if n := none.Count(); n != 0 {
			t.Errorf("count %d", n)
		}
		none.Clear()
	}
}

// No call panics of a Filter that New did not make, or of one whose family its New did not make.
func TestBlank(t *testing.T) {
	for _, b := range []*bloom.Filter{{}, made(t, &family.Family{}, 100)} {
		for _, k := range append(keys(), notValid()...) {
			if b.Insert(k) || b.Has(k) {
				t.Errorf("blank: %+v is there", k)
			}
		}
		b.Clear()
		if b.Count() != 0 || len(slices.Collect(b.Ones())) != 0 {
			t.Errorf("blank: %d places", b.Count())
		}
	}
}

// Has, Ones and Count change nothing, whoever is asked for.
func TestAskingChangesNothing(t *testing.T) {
	each(t, func(t *testing.T, f *family.Family, bits int) {
		b, want := made(t, f, bits), should(f, bits)
		for _, k := range keys()[:3] {
			b.Insert(k)
			want.insert(k)
		}
		for range 3 {
			want.check(t, "asked", b)
			for n := range b.Ones() {
				if b.Count() != len(want.set) || n < 0 {
					t.Errorf("count %d", b.Count())
				}
			}
		}
	})
}

// Two filters of one family know nothing of each other, and the family stays as it was.
func TestTwoOfOneFamily(t *testing.T) {
	for _, c := range configs() {
		f, other := hashes(t, c), hashes(t, c)
		for _, bits := range []int{8, 100, 65536} {
			a, b := made(t, f, bits), made(t, f, bits)
			wantA, wantB := should(other, bits), should(other, bits)
			for i, k := range keys() {
				if i%2 == 0 {
					a.Insert(k)
					wantA.insert(k)
				} else {
					b.Insert(k)
					wantB.insert(k)
				}
			}
			wantA.check(t, "the first one", a)
			wantB.check(t, "the second one", b)
			a.Clear()
			wantB.check(t, "the second one, the first one cleared", b)
			should(other, bits).check(t, "the first one, cleared", a)
		}
		for _, k := range keys() {
			if !slices.Equal(f.Bits(k), other.Bits(k)) || f.Digest(k) != other.Digest(k) {
				t.Errorf("%s: bits %d; were %d", key.Text(k), f.Bits(k), other.Bits(k))
			}
		}
	}
}

// Two filters of two sizes: each place of the small one is that of the great one modulo its bits, if the great one's bits are a multiple.
func TestModulo(t *testing.T) {
	for _, c := range configs() {
		f := hashes(t, c)
		for _, bits := range []int{1, 3, 64, 100, 1000} {
			small, great := made(t, f, bits), made(t, f, bits*60)
			for _, k := range keys() {
				small.Insert(k)
				great.Insert(k)
				want := map[int]bool{}
				for n := range great.Ones() {
					want[n%bits] = true
				}
				if got := slices.Collect(small.Ones()); !slices.Equal(got, slices.Sorted(maps.Keys(want))) {
					t.Fatalf("%d bits: ones %d; want %d", bits, got, slices.Sorted(maps.Keys(want)))
				}
			}
		}
	}
}
