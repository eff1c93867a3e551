package lmap_test

import (
	"math"
	"slices"
	"testing"

	"coaming/api"
	"coaming/lmap"
)

// Numbers at the edges of what may be handed in, some of them with the low bits of others.
var (
	tenants = []uint32{0, 1, 2, 1 << 16, 1<<16 + 1, 1 << 31, math.MaxUint32}
	blocks  = []uint64{0, 1, 2, 1 << 32, 1<<32 + 1, 1 << 63, math.MaxUint64}
	places  = []int{math.MinInt, -1 << 32, -2, -1, 0, 1, 2, 256, 1 << 32, 1<<32 + 1, math.MaxInt}
)

func at(zone, block int) api.Addr { return api.Addr{Zone: zone, Block: block} }

func place(tenant uint32, block uint64, zone, zoneBlock int) api.Place {
	return api.Place{Tenant: tenant, Block: block, At: at(zone, zoneBlock)}
}

// model is what the document says, told by its words alone: all places there are, in no order.
type model []api.Place

func (m model) get(tenant uint32, block uint64) (api.Addr, bool) {
	for _, p := range m {
		if p.Tenant == tenant && p.Block == block {
			return p.At, true
		}
	}
	return api.Addr{}, false
}

func (m model) at(a api.Addr) (api.Place, bool) {
	for _, p := range m {
		if p.At == a {
			return p, true
		}
	}
	return api.Place{}, false
}

func (m *model) drop(tenant uint32, block uint64) bool {
	before := len(*m)
	*m = slices.DeleteFunc(*m, func(p api.Place) bool { return p.Tenant == tenant && p.Block == block })
	return len(*m) < before
}

func (m *model) put(p api.Place) {
	m.drop(p.Tenant, p.Block)
	*m = slices.DeleteFunc(*m, func(other api.Place) bool { return other.At == p.At })
	*m = append(*m, p)
}

func (m model) count(tenant uint32) uint64 {
	n := uint64(0)
	for _, p := range m {
		if p.Tenant == tenant {
			n++
		}
	}
	return n
}

// sorted are those that are wanted, each one ahead of all that it is less than.
func (m model) sorted(wanted func(p api.Place) bool, less func(a, b api.Place) bool) []api.Place {
	var out []api.Place
	for _, p := range m {
		if !wanted(p) {
			continue
		}
		i := 0
		for i < len(out) && less(out[i], p) {
			i++
		}
		out = slices.Insert(out, i, p)
	}
	return out
}

func (m model) in(zone int) []api.Place {
	return m.sorted(func(p api.Place) bool { return p.At.Zone == zone }, func(a, b api.Place) bool { return a.At.Block < b.At.Block })
}

func (m model) all() []api.Place {
	return m.sorted(func(api.Place) bool { return true }, func(a, b api.Place) bool {
		return a.Tenant < b.Tenant || a.Tenant == b.Tenant && a.Block < b.Block
	})
}

func wantGet(t *testing.T, m *lmap.Map, want model, tenant uint32, block uint64) {
	t.Helper()
	a, is := want.get(tenant, block)
	if got, ok := m.Get(tenant, block); got != a || ok != is {
		t.Fatalf("Get(%d, %d): %v, %v, want %v, %v", tenant, block, got, ok, a, is)
	}
}

func wantAt(t *testing.T, m *lmap.Map, want model, a api.Addr) {
	t.Helper()
	p, is := want.at(a)
	if got, ok := m.At(a); got != p || ok != is {
		t.Fatalf("At(%v): %v, %v, want %v, %v", a, got, ok, p, is)
	}
}

func wantCount(t *testing.T, m *lmap.Map, want model, tenant uint32) {
	t.Helper()
	if got := m.Count(tenant); got != want.count(tenant) {
		t.Fatalf("Count(%d): %d, want %d", tenant, got, want.count(tenant))
	}
}

func wantIn(t *testing.T, m *lmap.Map, want model, zone int) {
	t.Helper()
	if got := m.In(zone); !slices.Equal(got, want.in(zone)) {
		t.Fatalf("In(%d): %v, want %v", zone, got, want.in(zone))
	}
}

func wantAll(t *testing.T, m *lmap.Map, want model) {
	t.Helper()
	if got := m.All(); !slices.Equal(got, want.all()) {
		t.Fatalf("All: %v, want %v", got, want.all())
	}
}

// wantModel asks about all that is there, and about what differs from it by one number.
func wantModel(t *testing.T, m *lmap.Map, want model) {
	t.Helper()
	wantAll(t, m, want)
	for _, p := range append(slices.Clone(want), api.Place{}) {
		for _, d := range []int{0, 1, -1, 1 << 32} {
			wantGet(t, m, want, p.Tenant+uint32(d), p.Block)
			wantGet(t, m, want, p.Tenant, p.Block+uint64(d))
			wantAt(t, m, want, at(p.At.Zone+d, p.At.Block))
			wantAt(t, m, want, at(p.At.Zone, p.At.Block+d))
			wantCount(t, m, want, p.Tenant+uint32(d))
			wantIn(t, m, want, p.At.Zone+d)
		}
		wantGet(t, m, want, uint32(p.Block), uint64(p.Tenant))
		wantAt(t, m, want, at(p.At.Block, p.At.Zone))
	}
}

// of is a map into which places are put, and asked.
func of(t *testing.T, list ...api.Place) (*lmap.Map, model) {
	t.Helper()
	m, want := lmap.New(), model(nil)
	for _, p := range list {
		m.Put(p)
		want.put(p)
		wantModel(t, m, want)
	}
	return m, want
}

func TestExample(t *testing.T) {
	m := lmap.New()
	m.Put(place(1, 2, 3, 4))
	m.Put(place(1, 5, 3, 4))
	if a, is := m.Get(1, 2); a != at(0, 0) || is {
		t.Error(a, is)
	}
	if n := m.Count(1); n != 1 {
		t.Error(n)
	}
	if a, is := m.Get(1, 5); a != at(3, 4) || !is {
		t.Error(a, is)
	}
	if p, is := m.At(at(3, 4)); p != place(1, 5, 3, 4) || !is {
		t.Error(p, is)
	}
}

func TestNewHasNothing(t *testing.T) {
	m := lmap.New()
	if m == nil {
		t.Fatal("New: nil")
	}
	for _, tenant := range tenants {
		wantCount(t, m, nil, tenant)
		for _, block := range blocks {
			wantGet(t, m, nil, tenant, block)
			if m.Drop(tenant, block) {
				t.Fatalf("Drop(%d, %d): true", tenant, block)
			}
		}
	}
	for _, zone := range places {
		wantIn(t, m, nil, zone)
		for _, block := range places {
			wantAt(t, m, nil, at(zone, block))
		}
	}
	wantAll(t, m, nil)
}

func TestPutOfABlockThatIsElsewhere(t *testing.T) {
	for _, to := range []api.Addr{at(3, 5), at(4, 4), at(2, 7), at(0, 0)} {
		m, want := of(t, place(1, 2, 3, 4), place(1, 3, 3, 6), place(1, 2, to.Zone, to.Block))
		if p, is := m.At(at(3, 4)); p != (api.Place{}) || is {
			t.Fatal("At where it was:", p, is)
		}
		if len(want) != 2 || m.Count(1) != 2 {
			t.Fatal("Count:", m.Count(1))
		}
	}
}

func TestPutWhereAnotherIs(t *testing.T) {
	for _, other := range []api.Place{place(1, 3, 3, 4), place(2, 2, 3, 4), place(0, 0, 3, 4), place(2, 1, 3, 4)} {
		m, _ := of(t, place(1, 2, 3, 4), place(9, 9, 3, 5), other)
		if a, is := m.Get(1, 2); a != at(0, 0) || is {
			t.Fatal("Get of what was there:", a, is)
		}
		if m.Drop(1, 2) {
			t.Fatal("Drop of what was there: true")
		}
		if n := m.Count(1) + m.Count(2) + m.Count(0); n != 1 {
			t.Fatal("Count:", n)
		}
	}
}

func TestPutOfABlockThatIsElsewhereWhereAnotherIs(t *testing.T) {
	m, want := of(t, place(1, 2, 3, 4), place(7, 8, 5, 6), place(1, 2, 5, 6))
	if len(want) != 1 || m.Count(7) != 0 || m.Count(1) != 1 {
		t.Fatal("Count:", m.Count(7), m.Count(1))
	}
	if p, is := m.At(at(5, 6)); p != place(1, 2, 5, 6) || !is {
		t.Fatal("At:", p, is)
	}
}

func TestPutOfTheSameAgain(t *testing.T) {
	m, want := of(t, place(1, 2, 3, 4), place(1, 2, 3, 4), place(0, 0, 0, 0), place(0, 0, 0, 0), place(1, 2, 3, 4))
	if len(want) != 2 || m.Count(1) != 1 || m.Count(0) != 1 {
		t.Fatal("Count:", m.Count(1), m.Count(0))
	}
}

// TestPutSwaps has two blocks change places by way of a third one.
func TestPutSwaps(t *testing.T) {
	m, _ := of(t, place(1, 1, 2, 0), place(1, 2, 2, 1), place(1, 1, 2, 2), place(1, 2, 2, 0), place(1, 1, 2, 1))
	if l := m.In(2); !slices.Equal(l, []api.Place{place(1, 2, 2, 0), place(1, 1, 2, 1)}) {
		t.Fatal("In:", l)
	}
}

func TestPutOfWhatIsAtNoughts(t *testing.T) {
	m, want := of(t, place(0, 0, 0, 0))
	// Where a block is nowhere, what is at 0, 0 stays.
	if m.Drop(1, 1) || m.Drop(0, 1) || m.Drop(1, 0) {
		t.Fatal("Drop of what is nowhere: true")
	}
	wantModel(t, m, want)
	m.Put(place(1, 1, 1, 1))
	want.put(place(1, 1, 1, 1))
	wantModel(t, m, want)
	if a, is := m.Get(0, 0); a != at(0, 0) || !is {
		t.Fatal("Get:", a, is)
	}
	if p, is := m.At(at(0, 0)); p != (api.Place{}) || !is {
		t.Fatal("At:", p, is)
	}
	if !m.Drop(0, 0) || m.Drop(0, 0) {
		t.Fatal("Drop")
	}
	want.drop(0, 0)
	wantModel(t, m, want)
}

func TestDrop(t *testing.T) {
	list := []api.Place{place(0, 0, 0, 0), place(1, 2, 3, 4), place(2, 1, 4, 3), place(1, 3, 3, 5), place(math.MaxUint32, math.MaxUint64, math.MinInt, math.MaxInt)}
	for _, p := range list {
		m, want := of(t, list...)
		if !m.Drop(p.Tenant, p.Block) {
			t.Fatalf("Drop(%d, %d): false", p.Tenant, p.Block)
		}
		want.drop(p.Tenant, p.Block)
		wantModel(t, m, want)
		wantAt(t, m, want, p.At)
		if m.Drop(p.Tenant, p.Block) {
			t.Fatalf("Drop(%d, %d), again: true", p.Tenant, p.Block)
		}
		wantModel(t, m, want)
		m.Put(p)
		want.put(p)
		wantModel(t, m, want)
	}
}

func TestDropOfWhatIsNowhere(t *testing.T) {
	m, want := of(t, place(1, 2, 3, 4), place(0, 0, 0, 0))
	for _, p := range []api.Place{place(2, 1, 0, 0), place(1, 3, 0, 0), place(1, 2+1<<32, 0, 0), place(3, 4, 0, 0), place(1+1<<16, 2, 0, 0)} {
		if m.Drop(p.Tenant, p.Block) {
			t.Fatalf("Drop(%d, %d): true", p.Tenant, p.Block)
		}
		wantModel(t, m, want)
	}
}

// TestAnyNumbers puts a block of each tenant and number at a place of its own, and asks for all of them, and for all places there could be.
func TestAnyNumbers(t *testing.T) {
	m, want := lmap.New(), model(nil)
	for i, tenant := range tenants {
		for j, block := range blocks {
			// All places with a number at the edge are taken by some block, not in their order.
			k := (i*len(blocks) + j) * 17 % (len(places) * len(places))
			p := place(tenant, block, places[k/len(places)], places[k%len(places)])
			m.Put(p)
			want.put(p)
		}
	}
	if len(want) != len(tenants)*len(blocks) {
		t.Fatal("two at one place:", len(want))
	}
	wantModel(t, m, want)
	for _, zone := range places {
		for _, block := range places {
			wantAt(t, m, want, at(zone, block))
		}
	}
	for _, tenant := range tenants {
		if n := m.Count(tenant); n != uint64(len(blocks)) {
			t.Fatalf("Count(%d): %d", tenant, n)
		}
	}
}

func TestInRisesByPlaces(t *testing.T) {
	m, want := lmap.New(), model(nil)
	for i := range places {
		for zone := range 3 {
			// Tenants and blocks rise otherwise than places, so that they don't help.
			p := place(uint32(i%3), uint64(1000*zone-i), zone, places[(i*7+3)%len(places)])
			m.Put(p)
			want.put(p)
		}
	}
	for zone := range 3 {
		l := m.In(zone)
		if len(l) != len(places) {
			t.Fatalf("In(%d): %d", zone, len(l))
		}
		for i, p := range l {
			if p.At != at(zone, places[i]) {
				t.Fatalf("In(%d): %v at %d", zone, p, i)
			}
		}
		wantIn(t, m, want, zone)
	}
	wantIn(t, m, want, 3)
	wantIn(t, m, want, -1)
}

func TestAllRisesByTenantsThenBlocks(t *testing.T) {
	m := lmap.New()
	var want []api.Place
	for _, tenant := range tenants {
		for _, block := range blocks {
			// Places fall where tenants and blocks rise, so that they don't help.
			want = append(want, place(tenant, block, -int(block>>32), -len(want)))
		}
	}
	for i := range want {
		m.Put(want[i*5%len(want)])
	}
	for i := range want {
		m.Put(want[i*11%len(want)])
	}
	if l := m.All(); !slices.Equal(l, want) {
		t.Fatal("All:", l)
	}
}

// TestSameAgain asks many times, as a map is gone through in another order each time.
func TestSameAgain(t *testing.T) {
	m := lmap.New()
	for i := range 64 {
		m.Put(place(uint32(i%5), uint64(i*37%64), i%3, i*29%64))
	}
	all, in := m.All(), m.In(1)
	for range 50 {
		if !slices.Equal(m.All(), all) || !slices.Equal(m.In(1), in) {
			t.Fatal("it differs")
		}
	}
}

func TestAnswersAreNewMemory(t *testing.T) {
	m, want := of(t, place(1, 2, 3, 4), place(1, 3, 3, 5), place(2, 2, 3, 6), place(2, 9, 4, 0))
	for _, ask := range []func() []api.Place{m.All, func() []api.Place { return m.In(3) }} {
		a, b := ask(), ask()
		before := slices.Clone(b)
		for i := range a[:cap(a)] {
			a[:cap(a)][i] = place(77, 77, 77, 77)
		}
		_ = append(a, place(78, 78, 78, 78))
		if !slices.Equal(b, before) {
			t.Fatal("the list of another call:", b)
		}
		wantModel(t, m, want)
	}
}

func TestAnswersStay(t *testing.T) {
	m, want := of(t, place(1, 2, 3, 4), place(1, 3, 3, 5))
	all, in := m.All(), m.In(3)
	m.Put(place(1, 2, 3, 5))
	m.Drop(1, 2)
	if !slices.Equal(all, want.all()) || !slices.Equal(in, want.in(3)) {
		t.Fatal(all, in)
	}
}

func TestObjectsAreApart(t *testing.T) {
	a, wantA := of(t, place(1, 2, 3, 4))
	b, wantB := of(t, place(1, 2, 5, 6), place(7, 8, 3, 4))
	wantModel(t, a, wantA)
	a.Drop(1, 2)
	wantModel(t, a, nil)
	wantModel(t, b, wantB)
	wantModel(t, lmap.New(), nil)
}

// wantSame asks whether Get and At say the same, of all that All and In tell.
func wantSame(t *testing.T, m *lmap.Map, zones int) {
	t.Helper()
	inAll := 0
	for zone := range zones {
		inAll += len(m.In(zone))
	}
	all := m.All()
	if inAll != len(all) {
		t.Fatalf("In: %d in all, All: %d", inAll, len(all))
	}
	for _, p := range all {
		if a, is := m.Get(p.Tenant, p.Block); a != p.At || !is {
			t.Fatalf("Get of %v: %v, %v", p, a, is)
		}
		if q, is := m.At(p.At); q != p || !is {
			t.Fatalf("At of %v: %v, %v", p, q, is)
		}
	}
}

// step does one call on both.
func step(t *testing.T, m *lmap.Map, want *model, drops bool, p api.Place) {
	t.Helper()
	if !drops {
		m.Put(p)
		want.put(p)
		return
	}
	if is := want.drop(p.Tenant, p.Block); m.Drop(p.Tenant, p.Block) != is {
		t.Fatalf("Drop(%d, %d): %v", p.Tenant, p.Block, !is)
	}
}

func TestManySteps(t *testing.T) {
	m, want := lmap.New(), model(nil)
	x := uint64(13)
	for range 3000 {
		x = x*6364136223846793005 + 1442695040888963407
		p := place(uint32(x>>40%3), x>>44%5, int(x>>48%3), int(x>>52%6))
		step(t, m, &want, x>>60 < 5, p)
		wantModel(t, m, want)
		wantSame(t, m, 3)
	}
}

// TestManyBlocks has as many blocks as several zones hold, and moves each of them, as cleaning does.
func TestManyBlocks(t *testing.T) {
	const zones, each = 8, 4096
	m := lmap.New()
	for i := range zones * each {
		m.Put(place(uint32(i%7), uint64(i/7), i/each, i%each))
	}
	for i := range zones * each / 2 {
		m.Put(place(uint32(i%7), uint64(i/7), zones+i/each, i%each))
	}
	wantSame(t, m, 2*zones)
	for zone := range 2 * zones {
		has := each
		if zone < zones/2 || zone >= zones+zones/2 {
			has = 0
		}
		l := m.In(zone)
		if len(l) != has {
			t.Fatalf("In(%d): %d, want %d", zone, len(l), has)
		}
		for i, p := range l {
			if p.At != at(zone, i) {
				t.Fatalf("In(%d): %v at %d", zone, p, i)
			}
		}
	}
	n := uint64(0)
	for tenant := range uint32(7) {
		n += m.Count(tenant)
	}
	if n != zones*each || m.Count(7) != 0 {
		t.Fatal("Count:", n, m.Count(7))
	}
}

func FuzzSteps(f *testing.F) {
	f.Add([]byte{0, 1, 2, 3, 4, 0, 1, 5, 3, 4, 1, 1, 2, 0, 0})
	f.Add([]byte{0, 0, 0, 0, 0, 1, 1, 1, 0, 0, 1, 0, 0, 0, 0})
	f.Add([]byte{0, 255, 255, 255, 255, 0, 127, 128, 128, 127})
	f.Fuzz(func(t *testing.T, calls []byte) {
		m, want := lmap.New(), model(nil)
		for range min(len(calls)/5, 64) {
			// Few numbers, so that they meet again, but at the edges.
			p := place(tenants[int(calls[1])%len(tenants)], blocks[int(calls[2])%len(blocks)], places[int(calls[3])%len(places)], places[int(calls[4])%len(places)])
			step(t, m, &want, calls[0]%3 == 1, p)
			wantModel(t, m, want)
			calls = calls[5:]
		}
	})
}
