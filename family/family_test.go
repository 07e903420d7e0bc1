package family_test

import (
	"iter"
	"math"
	"slices"
	"testing"

	"bazaar/addr"
	"bazaar/api"
	"bazaar/crc"
	"bazaar/family"
	"bazaar/key"
)

var (
	own4 = addr.V4(10, 0, 0, 250)
	own6 = api.Addr{V6: true, B: [16]byte{0x20, 1, 15: 250}}
	odd4 = api.Addr{B: [16]byte{10, 0, 0, 1, 15: 1}}
)

// base is a configuration with each number between its bounds.
func base() api.Config {
	return api.Config{Stages: 3, Size: 64, Digest: 10, Bloom: 512, Hashes: 3, Slots: 8, Versions: 4, Queue: 16, Evict: 12, Idle: 50, Linger: 5, Fails: 3, Own: own4, Own6: own6, Seed: 7}
}

// lowest is one with each number at its lowest, highest one with each at its highest.
func lowest() api.Config {
	return api.Config{Stages: 1, Size: 2, Digest: 1, Bloom: 8, Hashes: 1, Slots: 1, Versions: 2, Queue: 1, Evict: 1, Idle: 1, Linger: 1, Fails: 1}
}

func highest() api.Config {
	return api.Config{Stages: 4, Size: 1024, Digest: 16, Bloom: 65536, Hashes: 4, Slots: 64, Versions: 16, Queue: 256, Evict: 64, Idle: 1000, Linger: 1000, Fails: 10, Encap: true, Own: own4, Own6: own6, Seed: math.MaxUint32}
}

// wide is highest with another seed: its hashes tell most.
func wide(seed uint32) api.Config {
	c := highest()
	c.Seed = seed
	return c
}

// field is a number of a configuration, with its bounds.
type field struct {
	name      string
	at        func(c *api.Config) *int
	low, high int
}

func fields() []field {
	return []field{
		{"Stages", func(c *api.Config) *int { return &c.Stages }, 1, 4},
		{"Size", func(c *api.Config) *int { return &c.Size }, 2, 1024},
		{"Digest", func(c *api.Config) *int { return &c.Digest }, 1, 16},
		{"Bloom", func(c *api.Config) *int { return &c.Bloom }, 8, 65536},
		{"Hashes", func(c *api.Config) *int { return &c.Hashes }, 1, 4},
		{"Slots", func(c *api.Config) *int { return &c.Slots }, 1, 64},
		{"Versions", func(c *api.Config) *int { return &c.Versions }, 2, 16},
		{"Queue", func(c *api.Config) *int { return &c.Queue }, 1, 256},
		{"Evict", func(c *api.Config) *int { return &c.Evict }, 1, 64},
		{"Idle", func(c *api.Config) *int { return &c.Idle }, 1, 1000},
		{"Linger", func(c *api.Config) *int { return &c.Linger }, 1, 1000},
		{"Fails", func(c *api.Config) *int { return &c.Fails }, 1, 10},
	}
}

// with is base with one number changed.
func (f field) with(n int) api.Config {
	c := base()
	*f.at(&c) = n
	return c
}

// mayBe tells whether n is one of the numbers that the field may be, told by a list of the powers of two.
func (f field) mayBe(n int) bool {
	powers := []int{2, 4, 8, 16, 32, 64, 128, 256, 512, 1024, 2048, 4096, 8192, 16384, 32768, 65536}
	if (f.name == "Size" || f.name == "Bloom") && !slices.Contains(powers, n) {
		return false
	}
	return f.low <= n && n <= f.high
}

// checkConfig holds Check and New of c against what they should be.
func checkConfig(t *testing.T, what string, c api.Config, good bool) {
	t.Helper()
	want := api.ErrArg
	if good {
		want = api.OK
	}
	if got := family.Check(c); got != want {
		t.Errorf("%s: Check is %d; want %d", what, got, want)
	}
	f, e := family.New(c)
	if e != want || (f != nil) != good {
		t.Errorf("%s: New's error is %d, and it is there: %v; want %d, %v", what, e, f != nil, want, good)
	}
}

// made is New of what may be.
func made(t *testing.T, c api.Config) *family.Family {
	t.Helper()
	f, e := family.New(c)
	if e != api.OK || f == nil {
		t.Fatalf("New(%+v): %v, %d", c, f, e)
	}
	return f
}

// hash is a key's hash n by the document's words, in numbers of 64 binary digits of which 32 stay.
func hash(seed uint32, k api.Key, n int) uint64 {
	const all = 1 << 32
	from := uint32((uint64(seed) + 7919*uint64(n)) % all)
	x := uint64(crc.Of(crc.Make(crc.Known()[n%4]), from, key.Bytes(k)))
	x ^= x / (1 << 16)
	x = x * 0x7feb352d % all
	x ^= x / (1 << 15)
	x = x * 0x846ca68b % all
	x ^= x / (1 << 16)
	return x
}

// rest is a key's hash n modulo limit.
func rest(seed uint32, k api.Key, n, limit int) int {
	return int(hash(seed, k, n) % uint64(limit))
}

func seeds() []uint32 {
	return []uint32{0, 1, 7, 7919, 0x12345678, 0x7fffffff, 0x80000000, math.MaxUint32 - 7919, math.MaxUint32}
}

// four, zero and six are the flows whose hashes are written out below.
func four() api.Key {
	return api.Key{Proto: api.TCP, Src: addr.V4(10, 0, 0, 1), Dst: addr.V4(10, 0, 0, 2), SrcPort: 80, DstPort: 90}
}

func zero() api.Key {
	return api.Key{Proto: api.TCP}
}

func six() api.Key {
	src := api.Addr{V6: true, B: [16]byte{0x20, 1, 0x0d, 0xb8, 15: 1}}
	dst := api.Addr{V6: true, B: [16]byte{0xfd, 15: 2}}
	return api.Key{Proto: api.UDP, Src: src, Dst: dst, SrcPort: 0xfffe, DstPort: 53}
}

// keys is flows of both kinds and of both protocols, all Valid.
func keys() []api.Key {
	top := api.Addr{V6: true}
	for i := range top.B {
		top.B[i] = 255
	}
	out := []api.Key{four(), zero(), six(), {Proto: api.UDP}}
	for _, proto := range []byte{api.TCP, api.UDP} {
		out = append(out,
			api.Key{Proto: proto, Src: api.Addr{V6: true}, Dst: api.Addr{V6: true}},
			api.Key{Proto: proto, Src: top, Dst: top, SrcPort: 65535, DstPort: 65535},
			api.Key{Proto: proto, Src: addr.V4(255, 255, 255, 255), Dst: addr.V4(255, 255, 255, 255), SrcPort: 65535, DstPort: 65535},
		)
		for n := range 20 {
			a, p := byte(n*13), uint16(n*3331)
			out = append(out,
				api.Key{Proto: proto, Src: addr.V4(10, a, 0, 1), Dst: addr.V4(192, 168, 0, a), SrcPort: p, DstPort: 80},
				api.Key{Proto: proto, Src: api.Addr{V6: true, B: [16]byte{0x20, a, 7: a}}, Dst: api.Addr{V6: true, B: [16]byte{15: a}}, SrcPort: 80, DstPort: p},
			)
		}
	}
	return out
}

// notValid is flows that no Family has hashes of.
func notValid() []api.Key {
	change := func(k api.Key, do func(k *api.Key)) api.Key {
		do(&k)
		return k
	}
	return []api.Key{
		{},
		change(four(), func(k *api.Key) { k.Proto = 1 }),
		change(four(), func(k *api.Key) { k.Proto = 0 }),
		change(six(), func(k *api.Key) { k.Proto = 255 }),
		change(four(), func(k *api.Key) { k.Src = own6 }),
		change(four(), func(k *api.Key) { k.Dst = own6 }),
		change(six(), func(k *api.Key) { k.Src = own4 }),
		change(six(), func(k *api.Key) { k.Dst = own4 }),
		change(four(), func(k *api.Key) { k.Src = odd4 }),
		change(four(), func(k *api.Key) { k.Dst = odd4 }),
		change(six(), func(k *api.Key) { k.Src.V6, k.Dst.V6 = false, false }),
	}
}

// configs is many that may be: each number at its lowest, at its highest and between, with several seeds.
func configs() []api.Config {
	out := []api.Config{base(), lowest(), highest()}
	for _, seed := range seeds() {
		out = append(out, wide(seed))
	}
	for stages := 1; stages <= 4; stages++ {
		c := base()
		c.Stages, c.Hashes, c.Seed = stages, 5-stages, uint32(stages)
		out = append(out, c)
	}
	for size := 2; size <= 1024; size *= 2 {
		c := base()
		c.Size, c.Seed = size, uint32(size)
		out = append(out, c)
	}
	for digest := 1; digest <= 16; digest++ {
		c := base()
		c.Digest, c.Seed = digest, uint32(digest)<<20
		out = append(out, c)
	}
	for bloom := 8; bloom <= 65536; bloom *= 2 {
		c := base()
		c.Bloom, c.Seed = bloom, uint32(bloom)*3
		out = append(out, c)
	}
	return out
}

// wantPlaces is a key's places by the document's words, wantBits its bits.
func wantPlaces(c api.Config, k api.Key) []api.Place {
	var out []api.Place
	for stage := range c.Stages {
		out = append(out, api.Place{Stage: stage, Index: rest(c.Seed, k, stage, c.Size)})
	}
	return out
}

func wantBits(c api.Config, k api.Key) []int {
	var out []int
	for i := range c.Hashes {
		out = append(out, rest(c.Seed, k, 16+i, c.Bloom))
	}
	return out
}

func wantDigest(c api.Config, k api.Key) uint16 {
	low := 1
	for range c.Digest {
		low *= 2
	}
	return uint16(rest(c.Seed, k, 8, low))
}

// P13.1: each number at its bounds, one within, one beyond, and far beyond.
func TestCheckBounds(t *testing.T) {
	for _, f := range fields() {
		for _, n := range []int{f.low, f.low + 1, f.high - 1, f.high, f.low - 1, f.high + 1, f.low - 2, f.high + 2, 2 * f.high, 0, -1, -f.low, -f.high, 1 << 16, 1 << 30, -1 << 30, math.MaxInt, math.MaxInt - 1, math.MinInt, math.MinInt + 1} {
			checkConfig(t, f.name, f.with(n), f.mayBe(n))
		}
	}
}

// P13.1: each number from far below its bounds to far above.
func TestCheckEach(t *testing.T) {
	for _, f := range fields() {
		for n := -f.high - 3; n <= 2*f.high+3; n++ {
			want := api.ErrArg
			if f.mayBe(n) {
				want = api.OK
			}
			if got := family.Check(f.with(n)); got != want {
				t.Errorf("%s of %d: Check is %d; want %d", f.name, n, got, want)
			}
		}
	}
}

// P13.1: numbers that the low digits alone would let pass.
func TestCheckWrapped(t *testing.T) {
	if math.MaxInt == math.MaxInt32 {
		t.Skip("an int has no more digits")
	}
	for _, f := range fields() {
		for _, digits := range []int{8, 16, 32, 40} {
			wrapped := f.high + 1<<digits
			checkConfig(t, f.name, f.with(wrapped), false)
			checkConfig(t, f.name, f.with(f.low-1<<digits), f.mayBe(f.low-1<<digits))
		}
	}
}

// P13.1: all at their bounds; one wrong number is enough, wherever the others stand; two are no more than one.
func TestCheckTogether(t *testing.T) {
	for _, c := range configs() {
		checkConfig(t, "configs", c, true)
	}
	checkConfig(t, "nothing", api.Config{}, false)
	for _, f := range fields() {
		low, high, two := lowest(), highest(), base()
		*f.at(&low) = f.low - 1
		*f.at(&high) = f.high + 1
		*f.at(&two) = 0
		checkConfig(t, f.name+" below, others lowest", low, false)
		checkConfig(t, f.name+" above, others highest", high, false)
		two.Own = odd4
		checkConfig(t, f.name+" and Own", two, false)
	}
}

// P13.1: Size and Bloom are powers of two, each of which may be the other's or not.
func TestCheckPowers(t *testing.T) {
	for power := 1; power <= 1<<18; power *= 2 {
		size, bloom := base(), base()
		size.Size, bloom.Bloom = power, power
		checkConfig(t, "Size", size, power >= 2 && power <= 1024)
		checkConfig(t, "Bloom", bloom, power >= 8 && power <= 65536)
		for _, n := range []int{power - 1, power + 1, 3 * power, -power} {
			size.Size, bloom.Bloom = n, n
			checkConfig(t, "Size", size, n == 2 || n == 4)
			checkConfig(t, "Bloom", bloom, false)
		}
	}
}

// P13.1: the own addresses are Valid; of which kind they are is asked of encapsulation alone.
func TestCheckOwn(t *testing.T) {
	type own struct {
		a     api.Addr
		valid bool
	}
	owns := []own{
		{api.Addr{}, true}, {own4, true}, {addr.V4(255, 255, 255, 255), true},
		{api.Addr{V6: true}, true}, {own6, true}, {api.Addr{V6: true, B: odd4.B}, true},
		{odd4, false}, {api.Addr{B: own6.B}, false}, {api.Addr{B: [16]byte{4: 1}}, false}, {api.Addr{B: [16]byte{15: 0x80}}, false},
	}
	for _, a := range owns {
		for _, b := range owns {
			c := base()
			c.Own, c.Own6 = a.a, b.a
			checkConfig(t, "Own and Own6", c, a.valid && b.valid)
			c.Encap = true
			checkConfig(t, "Own and Own6, Encap", c, a.valid && b.valid && !a.a.V6 && b.a.V6)
		}
	}
}

// P13.1: any seed may be.
func TestCheckSeed(t *testing.T) {
	for _, seed := range seeds() {
		checkConfig(t, "Seed", wide(seed), true)
	}
}

// golden is a flow's hashes, in numbers that were worked out apart: of Size 1024, Digest 16, Bloom 65536.
type golden struct {
	k      api.Key
	seed   uint32
	places [4]int
	digest uint16
	bits   [4]int
	slot   int64
}

func goldens() []golden {
	return []golden{
		{four(), 0, [4]int{839, 705, 923, 517}, 0x1bc2, [4]int{36101, 21317, 33792, 57233}, 0xfc7b8d8f},
		{four(), 7, [4]int{720, 410, 964, 87}, 0xc11a, [4]int{14664, 34046, 64732, 14218}, 0xb0cac134},
		{four(), 0x12345678, [4]int{757, 762, 672, 895}, 0x64f8, [4]int{19634, 32422, 62282, 41746}, 0x7f2cbf40},
		{four(), math.MaxUint32, [4]int{186, 714, 930, 268}, 0x45a0, [4]int{6111, 10116, 35649, 17425}, 0x48d1c83b},
		{zero(), 0, [4]int{938, 804, 15, 950}, 0x9c0e, [4]int{16574, 52429, 933, 19111}, 0xe1be04b4},
		{zero(), 7, [4]int{258, 663, 995, 790}, 0x4b67, [4]int{35708, 31267, 1185, 38186}, 0xfc3230ac},
		{zero(), 0x12345678, [4]int{502, 179, 83, 13}, 0xa732, [4]int{38761, 33742, 43885, 56188}, 0xd1f57ad7},
		{zero(), math.MaxUint32, [4]int{773, 51, 367, 207}, 0xb5e3, [4]int{55522, 9707, 56521, 59468}, 0x97d03ebb},
		{six(), 0, [4]int{136, 400, 322, 955}, 0xc2a0, [4]int{46656, 57275, 44955, 56026}, 0x8cc43171},
		{six(), 7, [4]int{495, 303, 776, 71}, 0xe59f, [4]int{60344, 12432, 21835, 61454}, 0x7f92f81a},
		{six(), 0x12345678, [4]int{508, 301, 943, 101}, 0xc0bb, [4]int{58863, 62827, 2000, 16390}, 0x8470e48b},
		{six(), math.MaxUint32, [4]int{542, 695, 226, 237}, 0x9b72, [4]int{49447, 51153, 14399, 17466}, 0x1680a610},
	}
}

// P13.1, P13.2: hashes in numbers: those of the stages, 8, 16 to 19, and 32.
func TestGoldens(t *testing.T) {
	for _, g := range goldens() {
		f := made(t, wide(g.seed))
		at := 0
		for p := range f.Places(g.k) {
			if p != (api.Place{Stage: at, Index: g.places[at]}) {
				t.Errorf("%s, seed %#x: place %v; want %d in stage %d", key.Text(g.k), g.seed, p, g.places[at], at)
			}
			at++
		}
		if at != 4 {
			t.Errorf("%s, seed %#x: %d places", key.Text(g.k), g.seed, at)
		}
		if got := f.Digest(g.k); got != g.digest {
			t.Errorf("%s, seed %#x: digest %#x; want %#x", key.Text(g.k), g.seed, got, g.digest)
		}
		if got := f.Bits(g.k); !slices.Equal(got, g.bits[:]) {
			t.Errorf("%s, seed %#x: bits %d; want %d", key.Text(g.k), g.seed, got, g.bits)
		}
		for _, n := range []int{math.MaxInt, 1 << 30, 7} {
			if got := f.Slot(g.k, n); int64(got) != g.slot%int64(n) {
				t.Errorf("%s, seed %#x: slot %d of %d; want %d", key.Text(g.k), g.seed, got, n, g.slot%int64(n))
			}
		}
	}
}

// P13.2: each stage's place, and none of a stage that is none.
func TestPlace(t *testing.T) {
	for _, c := range configs() {
		f := made(t, c)
		for _, k := range keys() {
			for stage, want := range wantPlaces(c, k) {
				if got, ok := f.Place(k, stage); got != want || !ok {
					t.Errorf("%d stages of %d, seed %#x, %s: Place of %d is %v, %v; want %v", c.Stages, c.Size, c.Seed, key.Text(k), stage, got, ok, want)
				}
			}
			for _, stage := range []int{-1, c.Stages, c.Stages + 1, -c.Stages, 4, 8, math.MinInt, math.MaxInt} {
				if got, ok := f.Place(k, stage); got != (api.Place{}) || ok {
					t.Errorf("%d stages: Place of %d is %v, %v", c.Stages, stage, got, ok)
				}
			}
		}
	}
}

// P13.2: of each stage, in order.
func TestPlaces(t *testing.T) {
	for _, c := range configs() {
		f := made(t, c)
		for _, k := range keys() {
			if got, want := slices.Collect(f.Places(k)), wantPlaces(c, k); !slices.Equal(got, want) {
				t.Errorf("%d stages of %d, seed %#x, %s: %v; want %v", c.Stages, c.Size, c.Seed, key.Text(k), got, want)
			}
		}
	}
}

// P13.2: the example.
func TestOneStage(t *testing.T) {
	c := highest()
	c.Stages = 1
	if got := slices.Collect(made(t, c).Places(six())); !slices.Equal(got, []api.Place{{Stage: 0, Index: 542}}) {
		t.Errorf("one stage: %v", got)
	}
}

// leave walks as far as a few places, and no further.
func leave(s iter.Seq[api.Place], most int) []api.Place {
	var out []api.Place
	for p := range s {
		out = append(out, p)
		if len(out) == most {
			break
		}
	}
	return out
}

// P13.2: a walk may be left off at any place, and made anew; one within another one is another one.
func TestPlacesAnew(t *testing.T) {
	c := highest()
	f := made(t, c)
	for _, k := range keys() {
		want := wantPlaces(c, k)
		walk := f.Places(k)
		for most := 1; most <= c.Stages; most++ {
			if got := leave(walk, most); !slices.Equal(got, want[:most]) {
				t.Errorf("%s: the first %d are %v; want %v", key.Text(k), most, got, want[:most])
			}
			if got := slices.Collect(walk); !slices.Equal(got, want) {
				t.Errorf("%s: anew %v; want %v", key.Text(k), got, want)
			}
		}
		at := 0
		for p := range walk {
			if got := slices.Collect(walk); p != want[at] || !slices.Equal(got, want) {
				t.Errorf("%s: within %v: %v; want %v", key.Text(k), p, got, want)
			}
			at++
		}
	}
}

// P13.2: who left off is not called again.
func TestPlacesStop(t *testing.T) {
	f := made(t, highest())
	for most := 1; most <= 4; most++ {
		calls := 0
		f.Places(four())(func(api.Place) bool {
			calls++
			return calls < most
		})
		if calls != most {
			t.Errorf("left off at %d: %d calls", most, calls)
		}
	}
}

// P13.2: the low bits of hash 8, whatever their number; all that there are come.
func TestDigest(t *testing.T) {
	for _, c := range configs() {
		f := made(t, c)
		for _, k := range keys() {
			if got, want := f.Digest(k), wantDigest(c, k); got != want {
				t.Errorf("%d bits, seed %#x, %s: %#x; want %#x", c.Digest, c.Seed, key.Text(k), got, want)
			}
		}
	}
	for digest := 1; digest <= 16; digest++ {
		c := wide(7)
		c.Digest = digest
		if got, want := made(t, c).Digest(four()), uint16(0xc11a)<<(16-digest)>>(16-digest); got != want {
			t.Errorf("%d bits: %#x; want %#x", digest, got, want)
		}
	}
}

// P13.2: as many as Hashes, in order, twice the same one, too.
func TestBits(t *testing.T) {
	twice := false
	for _, c := range configs() {
		f := made(t, c)
		for _, k := range keys() {
			got, want := f.Bits(k), wantBits(c, k)
			if !slices.Equal(got, want) {
				t.Errorf("%d of %d, seed %#x, %s: %d; want %d", c.Hashes, c.Bloom, c.Seed, key.Text(k), got, want)
			}
			for i, n := range got {
				twice = twice || slices.Contains(got[:i], n)
			}
		}
	}
	if !twice {
		t.Error("no flow has a bit twice")
	}
	for hashes := 1; hashes <= 4; hashes++ {
		c := wide(7)
		c.Hashes = hashes
		if got, want := made(t, c).Bits(four()), []int{14664, 34046, 64732, 14218}[:hashes]; !slices.Equal(got, want) {
			t.Errorf("%d hashes: %d; want %d", hashes, got, want)
		}
	}
}

// P13.2: hash 32 modulo n, whatever the configuration's Slots; 0 of an n below 1.
func TestSlot(t *testing.T) {
	for _, c := range configs() {
		f := made(t, c)
		for _, k := range keys() {
			for _, n := range []int{1, 2, 3, 5, 7, 8, 13, 64, 65, 1000, 65536, 1<<30 + 1, math.MaxInt32, math.MaxInt>>30 + 8, math.MaxInt/2 + 1, math.MaxInt - 1, math.MaxInt} {
				if got, want := f.Slot(k, n), rest(c.Seed, k, 32, n); got != want {
					t.Errorf("seed %#x, %s: slot %d of %d; want %d", c.Seed, key.Text(k), got, n, want)
				}
			}
			for _, n := range []int{0, -1, -2, -64, math.MinInt, math.MinInt + 1} {
				if got := f.Slot(k, n); got != 0 {
					t.Errorf("seed %#x, %s: slot %d of %d", c.Seed, key.Text(k), got, n)
				}
			}
		}
	}
	f := made(t, wide(7))
	for n, want := range map[int]int{1: 0, 2: 0, 3: 2, 7: 4, 64: 52} {
		if got := f.Slot(four(), n); got != want {
			t.Errorf("slot %d of %d; want %d", got, n, want)
		}
	}
}

// checkNone holds all that a Family tells of a key against nothing.
func checkNone(t *testing.T, what string, f *family.Family, k api.Key) {
	t.Helper()
	for _, stage := range []int{-1, 0, 1, 3, 4} {
		if p, ok := f.Place(k, stage); p != (api.Place{}) || ok {
			t.Errorf("%s, %+v: Place of %d is %v, %v", what, k, stage, p, ok)
		}
	}
	for p := range f.Places(k) {
		t.Errorf("%s, %+v: Places has %v", what, k, p)
	}
	if d, b := f.Digest(k), f.Bits(k); d != 0 || len(b) != 0 {
		t.Errorf("%s, %+v: digest %d, bits %d", what, k, d, b)
	}
	for _, n := range []int{-1, 0, 1, 5, 64, math.MaxInt} {
		if s := f.Slot(k, n); s != 0 {
			t.Errorf("%s, %+v: slot %d of %d", what, k, s, n)
		}
	}
}

// P13.2: a key that is not Valid has nothing.
func TestNotValid(t *testing.T) {
	for _, c := range configs() {
		f := made(t, c)
		for _, k := range notValid() {
			checkNone(t, "not Valid", f, k)
		}
	}
}

// P13.2: a nil Family tells nothing, of whichever key.
func TestNil(t *testing.T) {
	var none *family.Family
	for _, k := range append(keys(), notValid()...) {
		checkNone(t, "nil", none, k)
	}
	refused, _ := family.New(api.Config{})
	checkNone(t, "refused", refused, four())
}

// No call panics of a Family that New did not make; it has no stage and no bits.
func TestBlank(t *testing.T) {
	var blank family.Family
	for _, k := range append(keys(), notValid()...) {
		if got := slices.Collect(blank.Places(k)); len(got) != 0 || len(blank.Bits(k)) != 0 || blank.Digest(k) != 0 {
			t.Errorf("blank: places %v, bits %d, digest %d", got, blank.Bits(k), blank.Digest(k))
		}
		for _, n := range []int{math.MinInt, -1, 0, 1, 5, math.MaxInt} {
			if _, ok := blank.Place(k, n); ok || blank.Slot(k, n) < 0 {
				t.Errorf("blank: a place in stage %d", n)
			}
		}
	}
}

// P13.3: two of one Seed have the same hashes, whatever else differs.
func TestSameSeed(t *testing.T) {
	for _, seed := range seeds() {
		a, b := made(t, wide(seed)), made(t, wide(seed))
		c := lowest()
		c.Seed, c.Own, c.Own6, c.Size = seed, own6, own4, 1024
		small := made(t, c)
		for _, k := range keys() {
			if !slices.Equal(slices.Collect(a.Places(k)), slices.Collect(b.Places(k))) || a.Digest(k) != b.Digest(k) || !slices.Equal(a.Bits(k), b.Bits(k)) || a.Slot(k, 97) != b.Slot(k, 97) {
				t.Errorf("seed %#x, %s: two of one configuration differ", seed, key.Text(k))
			}
			p, _ := a.Place(k, 0)
			q, _ := small.Place(k, 0)
			if p != q || a.Digest(k)&1 != small.Digest(k) || a.Bits(k)[0]%8 != small.Bits(k)[0] || a.Slot(k, math.MaxInt) != small.Slot(k, math.MaxInt) {
				t.Errorf("seed %#x, %s: two of one seed differ", seed, key.Text(k))
			}
		}
	}
}

// P13.3: whatever else of a configuration is changed, the hashes stay.
func TestSeedAlone(t *testing.T) {
	want := made(t, base())
	for _, f := range fields() {
		for _, n := range []int{f.low, f.high} {
			c := f.with(n)
			c.Encap = !c.Encap
			got := made(t, c)
			for _, k := range keys() {
				checkShared(t, f.name, got, want, c, k)
			}
		}
	}
}

// checkShared holds a key's hashes by c against those by base, as far as both tell them.
func checkShared(t *testing.T, what string, got, want *family.Family, c api.Config, k api.Key) {
	t.Helper()
	was := base()
	for stage := range min(c.Stages, was.Stages) {
		p, _ := got.Place(k, stage)
		q, _ := want.Place(k, stage)
		if size := min(c.Size, was.Size); p.Index%size != q.Index%size {
			t.Errorf("%s, %s: place %v; was %v", what, key.Text(k), p, q)
		}
	}
	digits := uint16(1<<min(c.Digest, was.Digest) - 1)
	if got.Digest(k)&digits != want.Digest(k)&digits || got.Slot(k, 1000) != want.Slot(k, 1000) {
		t.Errorf("%s, %s: digest %#x, slot %d; were %#x, %d", what, key.Text(k), got.Digest(k), got.Slot(k, 1000), want.Digest(k), want.Slot(k, 1000))
	}
	a, b, bloom := got.Bits(k), want.Bits(k), min(c.Bloom, was.Bloom)
	for i := range min(len(a), len(b)) {
		if a[i]%bloom != b[i]%bloom {
			t.Errorf("%s, %s: bits %d; were %d", what, key.Text(k), a, b)
		}
	}
}

// P13.1: another seed, another hash 32, for neither the checks nor the mixing lose a seed.
func TestOtherSeed(t *testing.T) {
	for _, k := range keys() {
		from := map[int]uint32{}
		for _, seed := range seeds() {
			slot := made(t, wide(seed)).Slot(k, math.MaxInt)
			if other, there := from[slot]; there {
				t.Errorf("%s: slot %d of both seeds, %#x and %#x", key.Text(k), slot, seed, other)
			}
			from[slot] = seed
		}
	}
}

// P13.3: whoever writes into what was answered changes no later answer.
func TestNewMemory(t *testing.T) {
	f := made(t, highest())
	for _, k := range keys() {
		want := wantBits(highest(), k)
		one, two := f.Bits(k), f.Bits(k)
		one = one[:cap(one)]
		for i := range one {
			one[i] = -1
		}
		_ = append(f.Bits(k), -1)
		if three := f.Bits(k); !slices.Equal(two, want) || !slices.Equal(three, want) {
			t.Errorf("%s: bits %d, %d; want %d", key.Text(k), two, three, want)
		}
	}
}

// P13.3: what one Family told hangs on nothing that it, or another one, was asked ahead of it.
func TestNothingKept(t *testing.T) {
	c := base()
	f := made(t, c)
	all := keys()
	first := f.Places(all[0])
	c.Seed, c.Size, c.Stages = 99, 2, 1
	other := made(t, c)
	for _, k := range append(all, notValid()...) {
		other.Digest(k)
		f.Bits(k)
		f.Slot(k, 3)
		f.Places(k)
	}
	if got, want := slices.Collect(first), wantPlaces(base(), all[0]); !slices.Equal(got, want) {
		t.Errorf("an earlier walk: %v; want %v", got, want)
	}
	for _, k := range all {
		if got, want := f.Digest(k), wantDigest(base(), k); got != want {
			t.Errorf("%s: digest %#x; want %#x", key.Text(k), got, want)
		}
	}
}
