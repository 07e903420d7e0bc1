package grid_test

import (
	"cmp"
	"math"
	"reflect"
	"slices"
	"strconv"
	"testing"

	"bazaar/api"
	"bazaar/grid"
)

// one is a place and what is there, as a plain list has it.
type one[T any] struct {
	p api.Place
	x T
}

// list is what a Grid should be: those that are there, in the order in which they came.
type list[T any] struct {
	stages, size int
	has          []one[T]
}

func at(stage, index int) api.Place { return api.Place{Stage: stage, Index: index} }

// is tells whether two are the same, slices and whatever else.
func is(a, b any) bool { return reflect.DeepEqual(a, b) }

func (l *list[T]) find(p api.Place) int {
	return slices.IndexFunc(l.has, func(o one[T]) bool { return o.p == p })
}

func (l *list[T]) in(p api.Place) bool {
	return 0 <= p.Stage && p.Stage <= l.stages-1 && 0 <= p.Index && p.Index <= l.size-1
}

func (l *list[T]) set(p api.Place, x T) bool {
	if !l.in(p) {
		return false
	}
	l.free(p)
	l.has = append(l.has, one[T]{p, x})
	return true
}

func (l *list[T]) free(p api.Place) bool {
	n := l.find(p)
	if n >= 0 {
		l.has = slices.Delete(l.has, n, n+1)
	}
	return n >= 0
}

func (l *list[T]) get(p api.Place) (x T, ok bool) {
	if n := l.find(p); n >= 0 {
		return l.has[n].x, true
	}
	return x, false
}

func (l *list[T]) all() []one[T] {
	return slices.SortedFunc(slices.Values(l.has), func(a, b one[T]) int {
		return cmp.Or(cmp.Compare(a.p.Stage, b.p.Stage), cmp.Compare(a.p.Index, b.p.Index))
	})
}

// walked is what All tells.
func walked[T any](g *grid.Grid[T]) []one[T] {
	var out []one[T]
	for p, x := range g.All() {
		out = append(out, one[T]{p, x})
	}
	return out
}

// made is New of what may be, and its list.
func made[T any](t *testing.T, stages, size int) (*grid.Grid[T], *list[T]) {
	t.Helper()
	g, e := grid.New[T](stages, size)
	if e != api.OK || g == nil {
		t.Fatalf("New of %d by %d: %v, %d", stages, size, g, e)
	}
	return g, &list[T]{stages: stages, size: size}
}

// places is all places of a grid, by stage, then by index.
func places(stages, size int) []api.Place {
	var out []api.Place
	for stage := range stages {
		for index := range size {
			out = append(out, at(stage, index))
		}
	}
	return out
}

// numbers is stages and indices around a bound, far from it, and as large as can be.
func numbers(most int) []int {
	return []int{math.MinInt, math.MinInt + 1, math.MinInt32, -1024, -5, -1, most, most + 1, 2 * most, 1024, 4096, 65536, math.MaxInt32, math.MaxInt - 1, math.MaxInt}
}

// nowhere is places that a grid has not: a wrong stage with each kind of index, and the other way round.
func nowhere(stages, size int) []api.Place {
	var out []api.Place
	for _, stage := range numbers(stages) {
		for _, index := range append(numbers(size), 0, size-1) {
			out = append(out, at(stage, index))
		}
	}
	for _, index := range numbers(size) {
		out = append(out, at(0, index), at(stages-1, index))
	}
	// What stands beyond a bound here may be within the other one: of a grid of 1024 index 1024 is not, but 5 of a stage is.
	l := list[int]{stages: stages, size: size}
	return slices.DeleteFunc(out, l.in)
}

// check holds a Grid against its list: each place, those that it has not, Len, and All.
func (l *list[T]) check(t *testing.T, what string, g *grid.Grid[T]) {
	t.Helper()
	for _, p := range places(l.stages, l.size) {
		x, ok := g.Get(p)
		if want, there := l.get(p); ok != there || !is(x, want) || !g.In(p) {
			t.Fatalf("%s: at %v %v, %v, in %v; want %v, %v", what, p, x, ok, g.In(p), want, there)
		}
	}
	var zero T
	for _, p := range nowhere(l.stages, l.size) {
		if x, ok := g.Get(p); ok || !is(x, zero) || g.In(p) {
			t.Fatalf("%s: at %v, which is none: %v, %v, in %v", what, p, x, ok, g.In(p))
		}
	}
	l.glance(t, what, g)
}

// glance holds Len and All alone against the list.
func (l *list[T]) glance(t *testing.T, what string, g *grid.Grid[T]) {
	t.Helper()
	if got, want := walked(g), l.all(); len(got) != len(want) || len(want) > 0 && !is(got, want) {
		t.Fatalf("%s: all are %v; want %v", what, got, want)
	}
	if g.Len() != len(l.has) {
		t.Fatalf("%s: len %d; want %d", what, g.Len(), len(l.has))
	}
}

// shapes is grids of one stage to four, of few places and of many.
func shapes() [][2]int {
	return [][2]int{{1, 1}, {1, 2}, {2, 1}, {2, 2}, {3, 3}, {4, 1}, {1, 7}, {4, 5}, {3, 16}, {2, 100}}
}

// P15.1: ErrArg, unless stages is 1 to 4, and size 1 to 1024: each number that may be, with each.
func TestNew(t *testing.T) {
	for stages := 1; stages <= 4; stages++ {
		for size := 1; size <= 1024; size++ {
			g, e := grid.New[byte](stages, size)
			if e != api.OK || g == nil {
				t.Fatalf("%d by %d: %v, %d", stages, size, g, e)
			}
			if !g.In(at(stages-1, size-1)) || g.In(at(stages, size-1)) || g.In(at(stages-1, size)) || g.Len() != 0 {
				t.Fatalf("%d by %d: other places", stages, size)
			}
		}
	}
}

// P15.1: what may not be, beside what may, and beside what may not either.
func TestNewRefused(t *testing.T) {
	wrongStages := []int{math.MinInt, math.MinInt + 1, math.MinInt32, -1024, -4, -2, -1, 0, 5, 6, 8, 16, 256, 257, 1024, 65537, math.MaxInt32, math.MaxInt - 1, math.MaxInt}
	wrongSizes := []int{math.MinInt, math.MinInt + 1, math.MinInt32, -1025, -1024, -2, -1, 0, 1025, 1026, 2047, 2048, 4096, 65536, 65537, math.MaxInt32, math.MaxInt - 1, math.MaxInt}
	if math.MaxInt > math.MaxInt32 {
		// The low digits alone would let these pass.
		for _, digits := range []int{16, 31, 32, 33, 62} {
			wrongStages = append(wrongStages, 1<<digits+2, 2-1<<digits)
			wrongSizes = append(wrongSizes, 1<<digits+8, 8-1<<digits)
		}
	}
	refused := func(stages, size int) {
		if g, e := grid.New[int](stages, size); e != api.ErrArg || g != nil {
			t.Errorf("%d by %d: %v, %d", stages, size, g, e)
		}
	}
	for _, stages := range wrongStages {
		for _, size := range append(wrongSizes, 1, 2, 512, 1024) {
			refused(stages, size)
		}
	}
	for _, size := range wrongSizes {
		for stages := 1; stages <= 4; stages++ {
			refused(stages, size)
		}
	}
}

// P15.1: all places of a new one are free, the document's two stages of two among them.
func TestNewIsFree(t *testing.T) {
	for _, s := range append(shapes(), [2]int{4, 1024}) {
		g, l := made[string](t, s[0], s[1])
		l.glance(t, "new", g)
		for _, p := range places(s[0], s[1]) {
			if x, ok := g.Get(p); ok || x != "" || !g.In(p) {
				t.Errorf("%v: at %v %q, %v, in %v", s, p, x, ok, g.In(p))
			}
			if g.Free(p) {
				t.Errorf("%v: something was at %v", s, p)
			}
		}
	}
	g, _ := made[int](t, 2, 2)
	n := 0
	for stage := -3; stage < 5; stage++ {
		for index := -3; index < 5; index++ {
			if g.In(at(stage, index)) {
				n++
			}
		}
	}
	if n != 4 {
		t.Errorf("two stages of two: %d places", n)
	}
}

// orders is each place of a grid once: rising, falling, by index ahead of stage, and mixed.
func orders(stages, size int) [][]api.Place {
	up := places(stages, size)
	down := slices.Clone(up)
	slices.Reverse(down)
	across := slices.SortedStableFunc(slices.Values(up), func(a, b api.Place) int { return cmp.Compare(a.Index, b.Index) })
	mixed := slices.SortedStableFunc(slices.Values(down), func(a, b api.Place) int {
		return cmp.Compare((a.Index*7+a.Stage*3)%11, (b.Index*7+b.Stage*3)%11)
	})
	return [][]api.Place{up, down, across, mixed}
}

// fill runs through a grid's life with values of some type: places set in each order, set again, freed, freed twice, and set anew.
func fill[T any](t *testing.T, values []T) {
	t.Helper()
	for _, s := range shapes() {
		for n, order := range orders(s[0], s[1]) {
			g, l := made[T](t, s[0], s[1])
			value := func(i int) T { return values[i%len(values)] }
			for i, p := range order {
				if !g.Set(p, value(i)) || !l.set(p, value(i)) {
					t.Fatalf("%v, order %d: %v can't be set", s, n, p)
				}
				if len(order) < 20 {
					l.check(t, "set", g)
				}
			}
			l.check(t, "all set", g)
			for i, p := range order {
				if i%3 != 0 {
					g.Set(p, value(i+1))
					l.set(p, value(i+1))
				}
			}
			l.check(t, "set again", g)
			for i, p := range order {
				if i%2 == 0 && (!g.Free(p) || !l.free(p) || g.Free(p)) {
					t.Fatalf("%v, order %d: free of %v", s, n, p)
				}
				if len(order) < 20 {
					l.check(t, "freed", g)
				}
			}
			l.check(t, "some freed", g)
			for i, p := range slices.Backward(order) {
				if i%4 != 1 {
					g.Set(p, value(i+2))
					l.set(p, value(i+2))
				}
			}
			l.check(t, "set anew", g)
			for _, p := range order {
				if got, want := g.Free(p), l.free(p); got != want {
					t.Fatalf("%v: free of %v: %v; want %v", s, p, got, want)
				}
			}
			l.check(t, "all freed", g)
		}
	}
}

type pair struct {
	name string
	row  [3]int
}

// P15.1, P15.2: a grid's life with numbers, texts, structs, slices, and whatever else; zero values among them.
func TestFill(t *testing.T) {
	t.Run("numbers", func(t *testing.T) { fill(t, []int{0, 1, -1, math.MinInt, math.MaxInt}) })
	t.Run("bytes", func(t *testing.T) { fill(t, []byte{0, 255, 7}) })
	t.Run("texts", func(t *testing.T) { fill(t, []string{"", "a", "a\x00", "two words"}) })
	t.Run("bools", func(t *testing.T) { fill(t, []bool{false, true}) })
	t.Run("floats", func(t *testing.T) { fill(t, []float64{0, 0.5, math.Inf(1)}) })
	t.Run("structs", func(t *testing.T) { fill(t, []pair{{}, {"x", [3]int{1, 2, 3}}, {"", [3]int{2: 1}}}) })
	t.Run("cells", func(t *testing.T) { fill(t, []api.Cell{{}, {Used: true, Digest: 7, Vip: 1, Version: 2}, {Version: 9}}) })
	t.Run("nothings", func(t *testing.T) { fill(t, []struct{}{{}}) })
	t.Run("slices", func(t *testing.T) { fill(t, [][]int{nil, {}, {1}, {1, 2}}) })
	t.Run("maps", func(t *testing.T) { fill(t, []map[string]int{nil, {}, {"a": 1}}) })
	t.Run("pointers", func(t *testing.T) { fill(t, []*int{nil, new(int)}) })
	t.Run("whatever", func(t *testing.T) { fill(t, []any{nil, 1, "a", []int{1}}) })
}

// P15.1: four stages of 1024: every place, and the order of All.
func TestLargest(t *testing.T) {
	g, _ := made[int](t, 4, 1024)
	all := places(4, 1024)
	for i := range all {
		// 1223 and 4096 have no common divisor, so each place comes once.
		n := i * 1223 % len(all)
		if !g.Set(all[n], n) || g.Len() != i+1 {
			t.Fatalf("%v: len %d", all[n], g.Len())
		}
	}
	n := 0
	for p, x := range g.All() {
		if x != n || p != all[n] {
			t.Fatalf("%d: %d at %v; want it at %v", n, x, p, all[n])
		}
		n++
	}
	if n != 4096 {
		t.Errorf("%d are told", n)
	}
	for i, p := range all {
		if x, ok := g.Get(p); x != i || !ok {
			t.Fatalf("at %v %d, %v", p, x, ok)
		}
		if !g.Free(p) || g.Free(p) || g.Len() != len(all)-1-i {
			t.Fatalf("%v is freed: len %d", p, g.Len())
		}
	}
}

// P15.1: the first and the last place of each stage, each alone: no other place is changed.
func TestBounds(t *testing.T) {
	for _, size := range []int{1, 2, 33, 1024} {
		for stages := 1; stages <= 4; stages++ {
			g, l := made[string](t, stages, size)
			for stage := range stages {
				for _, p := range []api.Place{at(stage, 0), at(stage, size-1)} {
					if !g.Set(p, "here") || !l.set(p, "here") {
						t.Fatalf("%d by %d: %v can't be set", stages, size, p)
					}
					l.glance(t, "one", g)
					for _, q := range places(stages, size) {
						if x, ok := g.Get(q); ok != (q == p) || (x == "here") != ok {
							t.Fatalf("%d by %d: %v is set; at %v %q, %v", stages, size, p, q, x, ok)
						}
					}
					if !g.Free(p) || !l.free(p) || g.Free(p) {
						t.Fatalf("%d by %d: free of %v", stages, size, p)
					}
					l.glance(t, "none", g)
				}
			}
		}
	}
}

// P15.1: of a place that is none In, Get, Set and Free answer false, and change nothing; of an empty grid, of one that is full, and between.
func TestNowhere(t *testing.T) {
	for _, s := range append(shapes(), [2]int{4, 1024}) {
		g, l := made[int](t, s[0], s[1])
		for _, taken := range []int{0, 1, s[0] * s[1]} {
			for i, p := range places(s[0], s[1])[:taken] {
				g.Set(p, i+1)
				l.set(p, i+1)
			}
			for _, p := range nowhere(s[0], s[1]) {
				x, ok := g.Get(p)
				if g.In(p) || x != 0 || ok || g.Set(p, 77) || g.Free(p) || g.Set(p, 0) || g.In(p) {
					t.Errorf("%v: there is a place %v", s, p)
				}
			}
			l.glance(t, "nowhere", g)
		}
	}
}

// P15.1: places that the low digits alone would let pass.
func TestNowhereWrapped(t *testing.T) {
	if math.MaxInt == math.MaxInt32 {
		t.Skip("an int has no more digits")
	}
	g, l := made[int](t, 4, 1024)
	for _, digits := range []int{10, 12, 16, 31, 32, 48, 62} {
		far := 1 << digits
		for _, p := range []api.Place{at(far, 3), at(1+far, 3), at(1-far, 3), at(1, far), at(1, 1023+far), at(1, 3-far), at(1-far, 3+far), at(1+far, 3-far)} {
			if g.In(p) || g.Set(p, 1) || g.Free(p) {
				t.Errorf("there is a place %v", p)
			}
		}
	}
	l.glance(t, "wrapped", g)
}

// P15.1: an index that is beyond a stage is not the next stage's, nor one that is ahead of it the one's before.
func TestNotTheNext(t *testing.T) {
	g, _ := made[string](t, 3, 4)
	for _, p := range places(3, 4) {
		g.Set(p, "x")
	}
	for stage := range 3 {
		for _, index := range []int{-5, -4, -1, 4, 5, 7, 8} {
			p := at(stage, index)
			if x, ok := g.Get(p); ok || x != "" || g.In(p) || g.Set(p, "y") || g.Free(p) {
				t.Errorf("there is a place %v", p)
			}
		}
	}
	for p, x := range g.All() {
		if x != "x" {
			t.Errorf("at %v %q", p, x)
		}
	}
	if g.Len() != 12 {
		t.Errorf("len %d", g.Len())
	}
}

// P15.1: a zero value that was set is there all the same; a freed one is not.
func TestZeroIsThere(t *testing.T) {
	g, _ := made[int](t, 2, 3)
	p := at(1, 1)
	for range 3 {
		if x, ok := g.Get(p); x != 0 || ok || g.Len() != 0 {
			t.Errorf("free: %d, %v, len %d", x, ok, g.Len())
		}
		if !g.Set(p, 0) || g.Len() != 1 {
			t.Errorf("set: len %d", g.Len())
		}
		if x, ok := g.Get(p); x != 0 || !ok {
			t.Errorf("set: %d, %v", x, ok)
		}
		if got := walked(g); !slices.Equal(got, []one[int]{{p, 0}}) {
			t.Errorf("set: %v", got)
		}
		if !g.Free(p) || g.Free(p) {
			t.Error("free: not once")
		}
	}
}

// P15.1: of a freed place the zero value is told, not what was there.
func TestFreedIsZero(t *testing.T) {
	g, _ := made[[]int](t, 1, 2)
	g.Set(at(0, 1), []int{1, 2, 3})
	g.Set(at(0, 0), []int{4})
	if !g.Free(at(0, 1)) {
		t.Error("nothing was there")
	}
	if x, ok := g.Get(at(0, 1)); x != nil || ok {
		t.Errorf("freed: %v, %v", x, ok)
	}
	if x, ok := g.Get(at(0, 0)); !slices.Equal(x, []int{4}) || !ok {
		t.Errorf("the other one: %v, %v", x, ok)
	}
}

// P15.1, P15.2: Set where something is: the new one is there, how often so ever, and Len stays.
func TestSetAgain(t *testing.T) {
	g, l := made[int](t, 2, 2)
	for i, p := range places(2, 2) {
		g.Set(p, -i)
		l.set(p, -i)
	}
	for n := range 50 {
		p := at(n%2, n/2%2)
		if !g.Set(p, n) || !l.set(p, n) || g.Len() != 4 {
			t.Fatalf("%v again: len %d", p, g.Len())
		}
		l.check(t, "set again", g)
		if !g.Set(p, n) || g.Len() != 4 {
			t.Fatalf("the same one again: len %d", g.Len())
		}
		l.check(t, "the same one again", g)
	}
}

// next is a row of numbers without a source: each one from the one ahead of it.
func next(seed *uint32, most int) int {
	*seed = *seed*1664525 + 1013904223
	return int(*seed>>8) % most
}

// P15.1, P15.2: long rows of calls, mixed, each answer held against the list's.
func TestMixed(t *testing.T) {
	for i, s := range shapes() {
		seed := uint32(i + 1)
		g, l := made[string](t, s[0], s[1])
		for n := range 3000 {
			// One beyond each bound among them.
			p := at(next(&seed, s[0]+2)-1, next(&seed, s[1]+2)-1)
			switch x := strconv.Itoa(n); next(&seed, 5) {
			case 0, 1:
				if got, want := g.Set(p, x), l.set(p, x); got != want {
					t.Fatalf("%v, %d: set %v: %v; want %v", s, n, p, got, want)
				}
			case 2:
				if got, want := g.Free(p), l.free(p); got != want {
					t.Fatalf("%v, %d: free %v: %v; want %v", s, n, p, got, want)
				}
			case 3:
				got, ok := g.Get(p)
				if want, there := l.get(p); got != want || ok != there || g.In(p) != l.in(p) {
					t.Fatalf("%v, %d: at %v %q, %v; want %q, %v", s, n, p, got, ok, want, there)
				}
			default:
				l.glance(t, strconv.Itoa(n), g)
			}
		}
		l.check(t, "in the end", g)
	}
}

// P15.1, P15.2: a walk that is left off at any place, and the same one walked anew.
func TestAllLeftOff(t *testing.T) {
	for _, s := range [][2]int{{1, 1}, {2, 2}, {4, 5}} {
		g, l := made[int](t, s[0], s[1])
		for i, p := range places(s[0], s[1]) {
			if i%3 != 1 {
				g.Set(p, i)
				l.set(p, i)
			}
		}
		want := l.all()
		walk := g.All()
		for most := 1; most <= len(want); most++ {
			var got []one[int]
			for p, x := range walk {
				if got = append(got, one[int]{p, x}); len(got) == most {
					break
				}
			}
			if !slices.Equal(got, want[:most]) {
				t.Fatalf("left off behind %d: %v; want %v", most, got, want[:most])
			}
			l.check(t, "left off", g)
		}
		var again []one[int]
		for p, x := range walk {
			again = append(again, one[int]{p, x})
		}
		if !slices.Equal(again, want) {
			t.Errorf("walked anew: %v; want %v", again, want)
		}
	}
}

// P15.1: one walk within the other, of one All: neither knows of the other.
func TestAllTwice(t *testing.T) {
	g, l := made[int](t, 3, 3)
	for i, p := range places(3, 3)[2:7] {
		g.Set(p, i)
		l.set(p, i)
	}
	walk := g.All()
	n := 0
	for p, x := range walk {
		if (one[int]{p, x}) != l.all()[n] {
			t.Errorf("without: %d at %v", x, p)
		}
		n++
		m := 0
		for p, x := range walk {
			if (one[int]{p, x}) != l.all()[m] {
				t.Errorf("within: %d at %v", x, p)
			}
			m++
		}
		if m != 5 {
			t.Errorf("within: %d", m)
		}
	}
	if n != 5 {
		t.Errorf("without: %d", n)
	}
}

// P15.1: a walk that is begun behind a change tells what is there then.
func TestAllBehindAChange(t *testing.T) {
	g, l := made[string](t, 2, 4)
	walk := g.All()
	for range 2 {
		for i, p := range places(2, 4) {
			g.Set(p, strconv.Itoa(i))
			l.set(p, strconv.Itoa(i))
		}
		g.Free(at(0, 3))
		l.free(at(0, 3))
		var got []one[string]
		for p, x := range walk {
			got = append(got, one[string]{p, x})
		}
		if !slices.Equal(got, l.all()) {
			t.Errorf("%v; want %v", got, l.all())
		}
	}
}

// Every call ends, and none panics: a walk under which the grid is changed, too, and what it tells is rising.
func TestAllChanged(t *testing.T) {
	for name, do := range map[string]func(g *grid.Grid[int], p api.Place){
		"freed":      func(g *grid.Grid[int], p api.Place) { g.Free(p) },
		"set":        func(g *grid.Grid[int], p api.Place) { g.Set(at(p.Stage, p.Index+1), 9) },
		"set behind": func(g *grid.Grid[int], p api.Place) { g.Set(at(0, 0), 9) },
		"all freed": func(g *grid.Grid[int], p api.Place) {
			for _, p := range places(3, 8) {
				g.Free(p)
			}
		},
	} {
		g, _ := made[int](t, 3, 8)
		for i, p := range places(3, 8) {
			if i%3 == 0 {
				g.Set(p, i)
			}
		}
		last, told := -1, 0
		for p := range g.All() {
			if n := p.Stage*8 + p.Index; n <= last || !g.In(p) {
				t.Fatalf("%s: %v behind %d", name, p, last)
			}
			last = p.Stage*8 + p.Index
			told++
			do(g, p)
		}
		if told == 0 {
			t.Errorf("%s: none is told", name)
		}
	}
}

// P15.1: a nil Grid: false, none, 0, of each place.
func TestNil(t *testing.T) {
	none[int](t)
	none[string](t)
	none[[]byte](t)
	none[api.Cell](t)
}

func none[T any](t *testing.T) {
	t.Helper()
	var g *grid.Grid[T]
	var zero T
	for range 2 {
		for _, p := range append(nowhere(1, 1), at(0, 0), at(1, 2), at(3, 1023)) {
			x, ok := g.Get(p)
			if ok || !is(x, zero) || g.In(p) || g.Set(p, zero) || g.Free(p) {
				t.Errorf("there is a place %v of none", p)
			}
		}
		for p := range g.All() {
			t.Errorf("none: something at %v", p)
		}
		if g.Len() != 0 {
			t.Errorf("none: len %d", g.Len())
		}
	}
}

// No call panics of a Grid that New did not make: it has no places.
func TestBlank(t *testing.T) {
	g := &grid.Grid[string]{}
	for _, p := range []api.Place{{}, at(0, 1), at(1, 0), at(-1, -1), at(math.MaxInt, math.MaxInt)} {
		if x, ok := g.Get(p); ok || x != "" || g.In(p) || g.Set(p, "x") || g.Free(p) {
			t.Errorf("blank: there is a place %v", p)
		}
	}
	if got := walked(g); len(got) != 0 || g.Len() != 0 {
		t.Errorf("blank: %v, len %d", got, g.Len())
	}
}

// P15.2: what is set is there, whatever is set and freed elsewhere.
func TestElsewhere(t *testing.T) {
	for _, p := range places(3, 5) {
		g, _ := made[string](t, 3, 5)
		g.Set(p, "stays")
		for round := range 3 {
			for _, q := range places(3, 5) {
				if q == p {
					continue
				}
				g.Set(q, strconv.Itoa(round))
				if round%2 == 1 {
					g.Free(q)
				}
				if x, ok := g.Get(p); x != "stays" || !ok {
					t.Fatalf("%v is set; at %v %q, %v", q, p, x, ok)
				}
			}
		}
	}
}

// P15.1: Get, In, Len and All change nothing, whatever place is asked for.
func TestAskingChangesNothing(t *testing.T) {
	for _, s := range shapes() {
		g, l := made[int](t, s[0], s[1])
		for i, p := range places(s[0], s[1]) {
			if i%2 == 0 {
				g.Set(p, i)
				l.set(p, i)
			}
		}
		for range 3 {
			for _, p := range append(places(s[0], s[1]), nowhere(s[0], s[1])...) {
				g.Get(p)
				g.In(p)
			}
			g.Len()
			for range g.All() {
				break
			}
			l.check(t, "asked", g)
		}
	}
}

// Two grids know nothing of each other.
func TestTwoGrids(t *testing.T) {
	a, first := made[string](t, 2, 4)
	b, second := made[string](t, 2, 4)
	for i, p := range places(2, 4) {
		if i%2 == 0 {
			a.Set(p, "a")
			first.set(p, "a")
		} else {
			b.Set(p, "b")
			second.set(p, "b")
		}
		first.check(t, "the first", a)
		second.check(t, "the second", b)
	}
	for _, p := range places(2, 4) {
		a.Free(p)
		first.free(p)
		first.check(t, "the first", a)
		second.check(t, "the second", b)
	}
	if _, e := grid.New[string](5, 4); e != api.ErrArg {
		t.Errorf("New of five stages: %d", e)
	}
	second.check(t, "behind one that was refused", b)
}

// What is set is a value: a struct that is changed behind it, and one that is told, change nothing that is there.
func TestValues(t *testing.T) {
	g, _ := made[pair](t, 1, 1)
	x := pair{"x", [3]int{1, 2, 3}}
	g.Set(at(0, 0), x)
	x.name, x.row[0] = "y", 9
	told, _ := g.Get(at(0, 0))
	told.row[1] = 9
	for _, x := range g.All() {
		x.row[2] = 9
	}
	if got, ok := g.Get(at(0, 0)); got != (pair{"x", [3]int{1, 2, 3}}) || !ok {
		t.Errorf("%v, %v", got, ok)
	}
}
