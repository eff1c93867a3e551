package seg_test

import (
	"math"
	"slices"
	"testing"

	"coaming/api"
	"coaming/seg"
	"coaming/zone"
)

const (
	free = api.ZoneFree
	open = api.ZoneOpen
	full = api.ZoneFull
	kept = api.ZoneKept
)

// small is the smallest shape that may be.
var small = shape(6, 8, 64, 2)

func shape(zones, blocks, block, reserve int) api.Shape {
	return api.Shape{Zones: zones, ZoneBlocks: blocks, Block: block, Reserve: reserve}
}

// farZones are numbers of zones that no shape has, some of them with the low bits of one that there is.
var farZones = []int{math.MinInt, math.MinInt + 2, -1 << 32, -254, -6, -2, -1, 256, 257, 258, 1<<16 + 2, 1<<32 + 2, 1<<62 + 2, math.MaxInt}

func made(t *testing.T, s api.Shape) *seg.Seg {
	t.Helper()
	g := seg.New(s)
	if g == nil {
		t.Fatalf("New(%v): nil", s)
	}
	return g
}

// begin are the states of so many zones at first.
func begin(zones int) []uint8 {
	out := slices.Repeat([]uint8{free}, zones)
	out[0], out[1] = kept, kept
	return out
}

// those are the zones of a state.
func those(states []uint8, state uint8) []int {
	var out []int
	for i, is := range states {
		if is == state {
			out = append(out, i)
		}
	}
	return out
}

// want asks for all that a Seg tells without being changed.
func want(t *testing.T, what string, g *seg.Seg, reserve int, states ...uint8) {
	t.Helper()
	for i, state := range states {
		if got := g.State(i); got != state {
			t.Fatalf("%s: State(%d): %d, want %d", what, i, got, state)
		}
	}
	for _, i := range append([]int{len(states), len(states) + 1}, farZones...) {
		if got := g.State(i); got != 0 {
			t.Fatalf("%s: State(%d): %d, want 0", what, i, got)
		}
	}
	for _, state := range []uint8{0, free, open, full, kept, 5, 128, 255} {
		if got := g.List(state); !slices.Equal(got, those(states, state)) {
			t.Fatalf("%s: List(%d): %v, want %v", what, state, got, those(states, state))
		}
	}
	if got := g.Low(); got != (len(those(states, free)) <= reserve) {
		t.Fatalf("%s: Low: %v, where %d are free, and the reserve is %d", what, got, len(those(states, free)), reserve)
	}
}

func wantTake(t *testing.T, g *seg.Seg, at int, is bool) {
	t.Helper()
	if got, ok := g.Take(); got != at || ok != is {
		t.Fatalf("Take: %d, %v, want %d, %v", got, ok, at, is)
	}
}

// turn is one of the calls that give a zone another state.
type turn struct {
	name     string
	call     func(g *seg.Seg, zone int) bool
	from, to uint8
}

func turns() []turn {
	return []turn{
		{"Fill", (*seg.Seg).Fill, open, full},
		{"Clear", (*seg.Seg).Clear, full, free},
		{"Found", (*seg.Seg).Found, free, full},
	}
}

// with is a small Seg whose zones have these states.
func with(t *testing.T, states []uint8) *seg.Seg {
	t.Helper()
	g := made(t, small)
	// All that are free are taken first, as Take asks no one which it should be.
	for range 4 {
		g.Take()
	}
	for i, state := range states {
		if state == full || state == free {
			g.Fill(i)
		}
		if state == free {
			g.Clear(i)
		}
	}
	want(t, "made by calls", g, small.Reserve, states...)
	return g
}

// allStates are those of a small Seg that may be: each of the zones behind the slots is free, open or full.
func allStates() [][]uint8 {
	out := [][]uint8{{kept, kept}}
	for range 4 {
		var longer [][]uint8
		for _, states := range out {
			for _, state := range []uint8{free, open, full} {
				longer = append(longer, append(slices.Clone(states), state))
			}
		}
		out = longer
	}
	return out
}

func TestExample(t *testing.T) {
	g := made(t, small)
	wantTake(t, g, 2, true)
	wantTake(t, g, 3, true)
	if l := g.List(free); !slices.Equal(l, []int{4, 5}) {
		t.Error(l)
	}
	if !g.Low() {
		t.Error("not low")
	}
	if !g.Fill(2) || !g.Clear(2) {
		t.Error("Fill, Clear")
	}
	if g.Low() {
		t.Error("low")
	}
}

func TestStatesAreTheDocuments(t *testing.T) {
	if states := []uint8{free, open, full, kept}; !slices.Equal(states, []uint8{1, 2, 3, 4}) {
		t.Error(states)
	}
}

func TestNewOfWhatMayBe(t *testing.T) {
	for zones := 6; zones <= 256; zones++ {
		for reserve := 2; reserve <= zones-4; reserve += 1 + zones/16 {
			want(t, "New", made(t, shape(zones, 8, 64, reserve)), reserve, begin(zones)...)
		}
		want(t, "New", made(t, shape(zones, 4096, 4096, zones-4)), zones-4, begin(zones)...)
	}
}

func TestNewOfWhatMayNotBe(t *testing.T) {
	numbers := []int{math.MinInt, -1 << 32, -8, -1, 0, 1, 2, 3, 4, 5, 6, 7, 8, 9, 63, 64, 65, 128, 252, 253, 256, 257, 4096, 4097, 8192, 1 << 32, 1<<32 + 64, math.MaxInt}
	for _, zones := range numbers {
		for _, blocks := range numbers {
			for _, block := range numbers {
				for _, reserve := range numbers {
					s := shape(zones, blocks, block, reserve)
					if is := seg.New(s) != nil; is != zone.Right(s) {
						t.Fatalf("New(%v): there is one: %v", s, is)
					}
				}
			}
		}
	}
}

func TestTakeIsTheLowestFree(t *testing.T) {
	for _, states := range allStates() {
		g := with(t, states)
		after := slices.Clone(states)
		for _, at := range those(states, free) {
			wantTake(t, g, at, true)
			after[at] = open
			want(t, "Take", g, small.Reserve, after...)
		}
		for range 3 {
			wantTake(t, g, 0, false)
			want(t, "Take of none", g, small.Reserve, after...)
		}
	}
}

func TestTakeOfEveryZone(t *testing.T) {
	for _, zones := range []int{6, 7, 64, 255, 256} {
		for _, reserve := range []int{2, zones - 4} {
			g, states := made(t, shape(zones, 8, 64, reserve)), begin(zones)
			for at := 2; at < zones; at++ {
				wantTake(t, g, at, true)
				states[at] = open
				want(t, "Take", g, reserve, states...)
			}
			wantTake(t, g, 0, false)
		}
	}
}

func TestTurns(t *testing.T) {
	for _, states := range allStates() {
		for _, turn := range turns() {
			for at := range states {
				g, after := with(t, states), slices.Clone(states)
				is := states[at] == turn.from
				if is {
					after[at] = turn.to
				}
				if got := turn.call(g, at); got != is {
					t.Fatalf("%s(%d), states %v: %v", turn.name, at, states, got)
				}
				want(t, turn.name, g, small.Reserve, after...)
			}
		}
	}
}

func TestTurnsOfNoZone(t *testing.T) {
	for _, states := range allStates() {
		g := with(t, states)
		for _, turn := range turns() {
			for _, at := range append([]int{6, 7, 8}, farZones...) {
				if turn.call(g, at) {
					t.Fatalf("%s(%d): true", turn.name, at)
				}
			}
		}
		want(t, "turns of no zone", g, small.Reserve, states...)
	}
}

func TestTurnsOfTheLastZone(t *testing.T) {
	g, states := made(t, shape(256, 8, 64, 252)), begin(256)
	for _, at := range []int{255, 254, 2} {
		if !g.Found(at) || g.Found(at) || g.Fill(at) {
			t.Fatal("Found", at)
		}
		states[at] = full
		want(t, "Found", g, 252, states...)
	}
	for _, at := range []int{254, 255} {
		if !g.Clear(at) || g.Clear(at) {
			t.Fatal("Clear", at)
		}
		states[at] = free
		want(t, "Clear", g, 252, states...)
	}
}

func TestLowAtTheReserve(t *testing.T) {
	for reserve := 2; reserve <= 16; reserve++ {
		g := made(t, shape(20, 8, 64, reserve))
		for left := 18; left > 0; left-- {
			if g.Low() != (left <= reserve) {
				t.Fatalf("%d free, reserve %d: %v", left, reserve, g.Low())
			}
			g.Take()
		}
		if !g.Low() {
			t.Fatalf("none free, reserve %d", reserve)
		}
		// An open zone is not free before it is full and cleared.
		for at := 2; at < 20; at++ {
			g.Fill(at)
			if g.Low() != (at-2 <= reserve) {
				t.Fatalf("Fill(%d), reserve %d: %v", at, reserve, g.Low())
			}
			g.Clear(at)
			if g.Low() != (at-1 <= reserve) {
				t.Fatalf("Clear(%d), reserve %d: %v", at, reserve, g.Low())
			}
		}
	}
}

func TestListsAreNewMemory(t *testing.T) {
	g := with(t, []uint8{kept, kept, free, open, full, free})
	for _, state := range []uint8{free, open, full, kept} {
		a, b := g.List(state), g.List(state)
		before := slices.Clone(b)
		for i := range a {
			a[i] = -1
		}
		_ = append(a, 77)
		for i := range a[:cap(a)] {
			a[:cap(a)][i] = -2
		}
		if !slices.Equal(b, before) {
			t.Fatalf("List(%d) of another call: %v", state, b)
		}
	}
	want(t, "lists written to", g, small.Reserve, kept, kept, free, open, full, free)
}

func TestListsStay(t *testing.T) {
	g := made(t, small)
	l := g.List(free)
	wantTake(t, g, 2, true)
	g.Found(5)
	if !slices.Equal(l, []int{2, 3, 4, 5}) {
		t.Fatal(l)
	}
}

func TestObjectsAreApart(t *testing.T) {
	a, b := made(t, small), made(t, shape(7, 8, 64, 3))
	wantTake(t, a, 2, true)
	want(t, "another one", b, 3, begin(7)...)
	b.Found(2)
	wantTake(t, b, 3, true)
	want(t, "the first one", a, 2, kept, kept, open, free, free, free)
	want(t, "a new one", made(t, small), 2, begin(6)...)
}

// model is what the document says, told by its words alone.
type model struct {
	states  []uint8
	reserve int
}

func (m *model) turn(at int, from, to uint8) bool {
	is := at >= 0 && at < len(m.states) && m.states[at] == from
	if is {
		m.states[at] = to
	}
	return is
}

func (m *model) take() (int, bool) {
	l := those(m.states, free)
	if len(l) == 0 {
		return 0, false
	}
	m.states[l[0]] = open
	return l[0], true
}

// step does one call on both, and says by what it differs.
func step(t *testing.T, g *seg.Seg, m *model, call uint8, at int) {
	t.Helper()
	if call%4 == 3 {
		n, is := m.take()
		wantTake(t, g, n, is)
	} else {
		turn := turns()[call%4]
		if is := m.turn(at, turn.from, turn.to); turn.call(g, at) != is {
			t.Fatalf("%s(%d): %v", turn.name, at, !is)
		}
	}
	want(t, "step", g, m.reserve, m.states...)
}

func TestManySteps(t *testing.T) {
	for _, s := range []api.Shape{small, shape(9, 8, 64, 5), shape(33, 16, 128, 2)} {
		g, m := made(t, s), &model{begin(s.Zones), s.Reserve}
		x := uint64(s.Zones)
		for range 3000 {
			x = x*6364136223846793005 + 1442695040888963407
			step(t, g, m, uint8(x>>60), int(x>>33%uint64(s.Zones+4))-2)
		}
	}
}

func FuzzSteps(f *testing.F) {
	f.Add(6, 2, []byte{3, 0, 3, 0, 0, 2, 1, 2})
	f.Add(256, 252, []byte{2, 255, 3, 0, 0, 2, 1, 255, 2, 0})
	f.Add(5, 2, []byte{3, 0})
	f.Fuzz(func(t *testing.T, zones, reserve int, calls []byte) {
		s := shape(zones, 8, 64, reserve)
		g := seg.New(s)
		if (g != nil) != zone.Right(s) {
			t.Fatalf("New(%v): there is one: %v", s, g != nil)
		}
		if g == nil {
			return
		}
		m := &model{begin(zones), reserve}
		for len(calls) > 1 {
			step(t, g, m, calls[0], int(int8(calls[1]))+zones/2)
			calls = calls[2:]
		}
	})
}
