package clean_test

import (
	"bytes"
	"math"
	"slices"
	"testing"

	"coaming/api"
	"coaming/ckpt"
	"coaming/clean"
	"coaming/rec"
	"coaming/store"
	"coaming/zone"
)

func shape(zones, blocks, block, reserve int) api.Shape {
	return api.Shape{Zones: zones, ZoneBlocks: blocks, Block: block, Reserve: reserve}
}

// small is the smallest shape that may be: a record has room for two items, a checkpoint for 16 places.
func small() api.Shape { return shape(6, 8, 64, 2) }

// filled is a block of so many bytes that begins with this text.
func filled(size int, text string) []byte {
	out := make([]byte, size)
	copy(out, text)
	return out
}

// data is a block of tenant 1 in a small store that begins with this text; drop drops one.
func data(block uint64, text string) api.Put {
	return api.Put{Tenant: 1, Block: block, Data: filled(64, text)}
}

func drop(block uint64) api.Put { return api.Put{Tenant: 1, Block: block, Drop: true} }

func place(tenant uint32, block uint64, z, b int) api.Place {
	return api.Place{Tenant: tenant, Block: block, At: api.Addr{Zone: z, Block: b}}
}

func made(t *testing.T, s api.Shape) *store.Store {
	t.Helper()
	x := store.New(s)
	if x == nil {
		t.Fatalf("New(%v): nil", s)
	}
	return x
}

func put(t *testing.T, s *store.Store, l ...api.Put) {
	t.Helper()
	if got := s.Put(l); got != api.OK {
		t.Fatalf("Put of %d: %v", len(l), got)
	}
}

// putEach puts them one by one, so that each has a record of its own.
func putEach(t *testing.T, s *store.Store, l ...api.Put) {
	t.Helper()
	for _, p := range l {
		put(t, s, p)
	}
}

func wantPick(t *testing.T, s *store.Store, want int) {
	t.Helper()
	if got := clean.Pick(s); got != want {
		t.Fatalf("Pick: %d, want %d", got, want)
	}
}

func wantStep(t *testing.T, s *store.Store, want bool) {
	t.Helper()
	if got := clean.Step(s); got != want {
		t.Fatalf("Step: %v, want %v", got, want)
	}
}

func wantRun(t *testing.T, s *store.Store, want int) {
	t.Helper()
	if got := clean.Run(s); got != want {
		t.Fatalf("Run: %d, want %d", got, want)
	}
}

// wantStates asks for the states of the zones from 2 on.
func wantStates(t *testing.T, s *store.Store, want ...uint8) {
	t.Helper()
	for i, state := range append([]uint8{api.ZoneKept, api.ZoneKept}, want...) {
		if got := s.Seg().State(i); got != state {
			t.Fatalf("zone %d has the state %d, want %d", i, got, state)
		}
	}
}

// wantCount asks for how many blocks a zone has, and how many of them are durable.
func wantCount(t *testing.T, s *store.Store, z, blocks, durable int) {
	t.Helper()
	if n, m := s.Dev().At(z); n != blocks || m != durable {
		t.Fatalf("zone %d has %d blocks, %d of them durable; want %d, %d", z, n, m, blocks, durable)
	}
}

func wantSlot(t *testing.T, s *store.Store, want int) {
	t.Helper()
	st, slot, errno := ckpt.Load(s.Dev())
	if errno != api.OK || slot != want || st.Seq != s.Seq() || !slices.Equal(st.Places, s.Map().All()) {
		t.Fatalf("Load: %v, %d, %v; want %d, with all that is there", st, slot, errno, want)
	}
}

func wantAt(t *testing.T, s *store.Store, p api.Place) {
	t.Helper()
	if got, is := s.Map().Get(p.Tenant, p.Block); !is || got != p.At {
		t.Fatalf("block %d of tenant %d is at %v, %v, want %v", p.Block, p.Tenant, got, is, p.At)
	}
}

func wantGet(t *testing.T, s *store.Store, p api.Put) {
	t.Helper()
	if got, is := s.Get(p.Tenant, p.Block); !is || !bytes.Equal(got, p.Data) {
		t.Fatalf("Get(%d, %d): %q, %v, want %q", p.Tenant, p.Block, got, is, p.Data)
	}
}

// told is all that a store tells without being changed.
type told struct {
	seq    uint64
	zones  []api.Zone
	states []uint8
	last   []uint64
	places []api.Place
	data   [][]byte // by places
}

func tellsOf(s *store.Store) told {
	x := told{seq: s.Seq(), zones: s.Dev().Zones(), places: s.Map().All()}
	for z := range s.Dev().Shape().Zones {
		x.states = append(x.states, s.Seg().State(z))
		x.last = append(x.last, s.Last(z))
	}
	for _, p := range x.places {
		b, _ := s.Get(p.Tenant, p.Block)
		x.data = append(x.data, b)
	}
	return x
}

func sameZone(a, b api.Zone) bool {
	return a.Durable == b.Durable && slices.EqualFunc(a.Blocks, b.Blocks, bytes.Equal)
}

func want(t *testing.T, what string, s *store.Store, m told) {
	t.Helper()
	x := tellsOf(s)
	if x.seq != m.seq {
		t.Fatalf("%s: Seq %d, want %d", what, x.seq, m.seq)
	}
	if !slices.Equal(x.states, m.states) || !slices.Equal(x.last, m.last) {
		t.Fatalf("%s: states %v, Last %v, want %v, %v", what, x.states, x.last, m.states, m.last)
	}
	if !slices.Equal(x.places, m.places) || !slices.EqualFunc(x.data, m.data, bytes.Equal) {
		t.Fatalf("%s: places %v, want %v; or their data differ", what, x.places, m.places)
	}
	for z := range m.zones {
		if !sameZone(x.zones[z], m.zones[z]) {
			t.Fatalf("%s: zone %d has %d blocks, %d durable, want %d, %d; or they differ", what, z, len(x.zones[z].Blocks), x.zones[z].Durable, len(m.zones[z].Blocks), m.zones[z].Durable)
		}
	}
}

// fullOfDrops makes the next zone of a small store full, with nothing in it.
func fullOfDrops(t *testing.T, s *store.Store) {
	t.Helper()
	for range 8 {
		put(t, s, drop(99))
	}
}

func TestExample(t *testing.T) {
	s := made(t, small())
	putEach(t, s, data(0, "a"), data(1, "b"), data(0, "c"), data(1, "d"))
	put(t, s, data(0, "e"), data(1, "f"))
	wantStates(t, s, api.ZoneFull, api.ZoneOpen, api.ZoneFree, api.ZoneFree)
	wantPick(t, s, 2)
	wantStep(t, s, true)
	wantStates(t, s, api.ZoneFree, api.ZoneOpen, api.ZoneFree, api.ZoneFree)
	wantCount(t, s, 2, 0, 0)
	wantSlot(t, s, 1)
	wantGet(t, s, data(0, "e"))
	wantGet(t, s, data(1, "f"))
	if s.Seq() != 5 || s.Last(2) != 0 {
		t.Fatalf("Seq %d, Last(2) %d: nothing was to be put", s.Seq(), s.Last(2))
	}
	wantPick(t, s, -1)
}

// of says how many blocks are in a zone, how many records are appended to it till it is full.
type of struct{ live, records int }

// aged is a store that begins with this Seq, whose zones from 2 on are full one behind the other, and so many records are behind them. Just the map says that blocks are in them: picking asks for no more.
func aged(t *testing.T, at api.Shape, seq uint64, behind int, l ...of) *store.Store {
	t.Helper()
	d := zone.New(at)
	var places []api.Place
	for i, x := range l {
		for range at.ZoneBlocks - x.records {
			d.Append(2+i, make([]byte, at.Block))
		}
		for b := range x.live {
			places = append(places, place(uint32(i), uint64(b), 2+i, b))
		}
	}
	s := store.On(d, seq, places, nil, 0)
	for _, x := range l {
		for range x.records {
			put(t, s, drop(1<<40))
		}
	}
	for range behind {
		put(t, s, drop(1<<40))
	}
	for i := range l {
		if s.Seg().State(2+i) != api.ZoneFull {
			t.Fatalf("zone %d is not full", 2+i)
		}
	}
	return s
}

func TestPickWhereNoneIsFull(t *testing.T) {
	for _, at := range []api.Shape{small(), shape(256, 8, 64, 252), shape(6, 4096, 64, 2), shape(7, 9, 4096, 3)} {
		s := made(t, at)
		wantPick(t, s, -1)
		wantStep(t, s, false)
		wantRun(t, s, 0)
		put(t, s, drop(1)) // open, with nothing in it
		wantPick(t, s, -1)
		wantStep(t, s, false)
		wantCount(t, s, 2, 1, 0)
	}
}

// TestPickIsOfFullZones has slots, free zones and an open one with nothing in them, and with few blocks: none is picked.
func TestPickIsOfFullZones(t *testing.T) {
	at := shape(8, 8, 64, 4)
	d := zone.New(at)
	places := []api.Place{place(1, 1, 0, 1), place(1, 2, 1, 1), place(1, 3, 2, 5), place(1, 4, 3, 3), place(1, 5, -1, 3), place(1, 6, 8, 3), place(1, 7, 1<<32+2, 0)}
	s := store.On(d, 5, places, nil, 0)
	wantPick(t, s, -1)
	put(t, s, drop(99))
	wantPick(t, s, -1)
	s = store.On(d, 5, places, []int{6}, 0)
	wantPick(t, s, 6)
}

func TestPickOfHalfFullZones(t *testing.T) {
	for _, x := range []struct{ blocks, most int }{{8, 4}, {9, 4}, {10, 5}, {11, 5}, {4095, 2047}, {4096, 2048}} {
		at := shape(6, x.blocks, 64, 2)
		for live := max(0, x.most-5); live <= min(x.blocks, x.most+5); live++ {
			pick := -1
			if live <= x.most {
				pick = 2
			}
			wantPick(t, aged(t, at, 0, 1, of{live, 1}), pick)
		}
		wantPick(t, aged(t, at, 0, 1, of{x.blocks, 1}), -1)
		wantPick(t, aged(t, at, 0, 1, of{x.blocks, 1}, of{x.most + 1, 1}, of{x.most, 1}), 4)
		wantPick(t, aged(t, at, 0, 1, of{2 * x.blocks, 1}, of{x.most, 1}), 3)
	}
}

// TestPickOfEmptyZones has the lowest zone with nothing in it, whatever others are worth.
func TestPickOfEmptyZones(t *testing.T) {
	at := shape(10, 8, 64, 2)
	wantPick(t, aged(t, at, 0, 0, of{0, 1}), 2)
	wantPick(t, aged(t, at, 0, 0, of{1, 1}, of{0, 1}), 3)
	wantPick(t, aged(t, at, 0, 0, of{1, 8}, of{4, 8}, of{1, 8}, of{0, 8}), 5)
	wantPick(t, aged(t, at, 0, 0, of{5, 1}, of{0, 8}, of{1, 8}, of{0, 8}), 3)
	wantPick(t, aged(t, at, 0, 0, of{1, 8}, of{0, 8}, of{0, 8}, of{0, 8}), 3)
	// Zones of On are as old as each other; one that has never had a record is as old as can be.
	d := zone.New(at)
	wantPick(t, store.On(d, 1<<63, []api.Place{place(1, 1, 2, 0)}, []int{2, 3, 4}, 0), 3)
}

// TestPickOfNoRecord has a zone that is full though it never had a record: its Last is 0.
func TestPickOfNoRecord(t *testing.T) {
	for _, x := range []struct {
		seq  uint64
		pick int
	}{{9, 2}, {1 << 60, 2}, {math.MaxUint64 - 3, 2}, {math.MaxUint64 - 2, 2}, {math.MaxUint64 - 1, 3}, {math.MaxUint64, 3}} {
		d := zone.New(small())
		for range 8 {
			d.Append(2, make([]byte, 64))
		}
		s := store.On(d, x.seq, []api.Place{place(1, 1, 2, 0), place(1, 2, 3, 0)}, []int{3}, 0)
		put(t, s, drop(99)) // to zone 4
		wantStates(t, s, api.ZoneFull, api.ZoneFull, api.ZoneOpen, api.ZoneFree)
		if s.Last(2) != 0 || s.Last(3) != x.seq {
			t.Fatalf("Last: %d, %d", s.Last(2), s.Last(3))
		}
		wantPick(t, s, x.pick)
	}
}

// TestPickOfWorthNought has a zone that is worth 0: that is a number.
func TestPickOfWorthNought(t *testing.T) {
	d := zone.New(small())
	for range 8 {
		d.Append(2, make([]byte, 64))
	}
	s := store.On(d, math.MaxUint64-1, []api.Place{place(1, 1, 2, 0)}, nil, 0)
	put(t, s, drop(99))
	wantStates(t, s, api.ZoneFull, api.ZoneOpen, api.ZoneFree, api.ZoneFree)
	wantPick(t, s, 2)
}

func TestPickOfTheGreatestWorth(t *testing.T) {
	at := shape(10, 8, 64, 2)
	// As old as each other: the fewest.
	d := zone.New(at)
	var places []api.Place
	for i, live := range []int{4, 3, 2, 1, 1} {
		for b := range live {
			places = append(places, place(uint32(i), uint64(b), 2+i, b))
		}
	}
	wantPick(t, store.On(d, 7, places, []int{2, 3, 4, 5, 6}, 0), 5)
	wantPick(t, store.On(d, 7, places, []int{6, 4, 3}, 0), 6)
	wantPick(t, store.On(d, 7, places, []int{2, 3}, 0), 3)
	// As full as each other: the oldest.
	for live := 1; live <= 4; live++ {
		wantPick(t, aged(t, at, 0, 0, of{live, 1}, of{live, 1}, of{live, 1}), 2)
	}
	// 4 of 8 is worth a third of its age, 1 of 8 seven ninths: at 7 and 3 they are alike.
	wantPick(t, aged(t, at, 0, 2, of{4, 4}, of{1, 4}), 2)
	wantPick(t, aged(t, at, 0, 1, of{4, 4}, of{1, 4}), 2)
	wantPick(t, aged(t, at, 0, 2, of{4, 1}, of{1, 4}), 2)
	wantPick(t, aged(t, at, 0, 3, of{4, 4}, of{1, 4}), 3)
	wantPick(t, aged(t, at, 0, 2, of{4, 4}, of{1, 3}), 3)
}

// TestPickOfTheSameWorth has worths that are just alike, by exact numbers: the lowest zone.
func TestPickOfTheSameWorth(t *testing.T) {
	at := shape(10, 8, 64, 2)
	// 4 of 8 at the age of 7: 7/3; 1 of 8 at the age of 3: 21/9.
	wantPick(t, aged(t, at, 0, 2, of{4, 1}, of{1, 4}), 2)
	// 1 of 8 at 3, in the lower zone, which is opened later.
	d := zone.New(at)
	var places []api.Place
	for b := range 4 {
		places = append(places, place(1, uint64(b), 3, b))
	}
	places = append(places, place(2, 1, 2, 0))
	for range 4 {
		d.Append(2, make([]byte, 64))
	}
	s := store.On(d, 7, places, []int{3}, 0)
	for range 4 {
		put(t, s, drop(99)) // zone 2 is full now
	}
	put(t, s, drop(99))
	wantPick(t, s, 3)
	put(t, s, drop(99))
	wantPick(t, s, 2)
	put(t, s, drop(99))
	wantPick(t, s, 2)
}

// TestPickIsByFloats has worths that are alike by exact numbers (both 2, both 1), but the second one's steps round it upwards.
func TestPickIsByFloats(t *testing.T) {
	wantPick(t, aged(t, shape(6, 10, 64, 2), 0, 2, of{5, 1}, of{2, 3}), 3)
	wantPick(t, aged(t, shape(6, 12, 64, 2), 0, 1, of{6, 1}, of{4, 1}), 3)
}

// TestAgesWrapRound has numbers of records that begin at 0 again.
func TestAgesWrapRound(t *testing.T) {
	at := shape(10, 8, 64, 2)
	for back := range uint64(20) {
		wantPick(t, aged(t, at, -back, 2, of{4, 4}, of{1, 4}), 2)
		wantPick(t, aged(t, at, -back, 3, of{4, 4}, of{1, 4}), 3)
		wantPick(t, aged(t, at, -back, 0, of{2, 4}, of{2, 4}, of{2, 4}), 2)
	}
}

// TestPickChangesNothing asks again and again.
func TestPickChangesNothing(t *testing.T) {
	s := aged(t, small(), 4, 1, of{2, 3}, of{3, 1})
	before := tellsOf(s)
	for range 3 {
		wantPick(t, s, 2)
		want(t, "a pick", s, before)
	}
}

// TestStepPutsInOrder has blocks of many tenants, which go by their places, two a record.
func TestStepPutsInOrder(t *testing.T) {
	s := made(t, small())
	l := []api.Put{
		{Tenant: 7, Block: 3, Data: filled(64, "first")}, {Tenant: 2, Block: 9, Data: filled(64, "second")},
		{Tenant: 5, Block: math.MaxUint64, Data: filled(64, "")}, {Tenant: math.MaxUint32, Block: 0, Data: bytes.Repeat([]byte{255}, 64)},
		{Tenant: 0, Block: 4, Data: filled(64, "\x00fifth")},
	}
	put(t, s, l...)
	put(t, s, api.Put{Tenant: 2, Block: 9, Drop: true}, data(1, "x")) // record 4, zone 3
	wantStates(t, s, api.ZoneFull, api.ZoneOpen, api.ZoneFree, api.ZoneFree)
	wantPick(t, s, 2)
	wantStep(t, s, true)
	left := slices.Delete(slices.Clone(l), 1, 2)
	wantRecords(t, s, 3, 2, 5, left[:2], left[2:])
	for _, p := range left {
		wantGet(t, s, p)
	}
	wantGet(t, s, data(1, "x"))
	if _, is := s.Get(2, 9); is {
		t.Fatal("what was dropped is there again")
	}
	wantStates(t, s, api.ZoneFree, api.ZoneFull, api.ZoneFree, api.ZoneFree)
	wantCount(t, s, 2, 0, 0)
	wantCount(t, s, 3, 8, 8)
	wantSlot(t, s, 1)
	if s.Seq() != 6 || s.Last(2) != 0 || s.Last(3) != 6 {
		t.Fatalf("Seq %d, Last %d, %d", s.Seq(), s.Last(2), s.Last(3))
	}
}

// wantRecords asks for records, numbered from this one on, and the data behind them, from a place on.
func wantRecords(t *testing.T, s *store.Store, z, block int, seq uint64, l ...[]api.Put) {
	t.Helper()
	next := func() []byte {
		b, errno := s.Dev().Read(api.Addr{Zone: z, Block: block})
		if errno != api.OK {
			t.Fatalf("zone %d has no block %d", z, block)
		}
		block++
		return b
	}
	for i, puts := range l {
		r, errno := rec.Decode(next())
		if errno != api.OK || r.Seq != seq+uint64(i) || len(r.Items) != len(puts) {
			t.Fatalf("record %v, %v, want %d with %d items", r, errno, seq+uint64(i), len(puts))
		}
		for j, p := range puts {
			x, b := r.Items[j], next()
			if x.Tenant != p.Tenant || x.Block != p.Block || !rec.Check(x, p.Data) || !bytes.Equal(b, p.Data) {
				t.Fatalf("record %d: item %d is %v, with %q behind it, want %v", r.Seq, j, x, b, p)
			}
		}
	}
}

// TestStepPutsAllAtOnce has blocks that were put one by one: they go in one record, where it has room.
func TestStepPutsAllAtOnce(t *testing.T) {
	s := made(t, shape(6, 16, 256, 2))
	var l []api.Put
	for i := range uint64(8) {
		l = append(l, api.Put{Tenant: uint32(9 - i), Block: i, Data: filled(256, string(rune('a'+i)))})
	}
	putEach(t, s, l...)
	wantPick(t, s, 2)
	wantStep(t, s, true)
	wantRecords(t, s, 3, 0, 9, l)
	wantCount(t, s, 3, 9, 9)
	wantCount(t, s, 2, 0, 0)
	wantPick(t, s, -1)
}

// TestStepIsDurable has a crash behind a step, which loses nothing: the checkpoint says where all is.
func TestStepIsDurable(t *testing.T) {
	s := made(t, small())
	putEach(t, s, data(1, "a"), data(2, "b"), data(3, "c"), data(4, "d"), data(5, "e"))
	wantStep(t, s, true)
	d := zone.Open(s.Dev().Shape(), s.Dev().Zones())
	d.Crash(nil)
	st, slot, errno := ckpt.Load(d)
	if slot != 1 || errno != api.OK || len(st.Places) != 5 || st.Seq != s.Seq() {
		t.Fatalf("Load: %v, %d, %v", st, slot, errno)
	}
	for _, p := range st.Places {
		b, errno := d.Read(p.At)
		if errno != api.OK || !bytes.Equal(b, filled(64, string(rune('a'+p.Block-1)))) {
			t.Fatalf("block %d is %q, %v", p.Block, b, errno)
		}
	}
	wantCount(t, s, 2, 0, 0)
}

func TestStepsTakeSlotsByTurns(t *testing.T) {
	s := made(t, shape(8, 8, 64, 2))
	for range 4 {
		fullOfDrops(t, s)
	}
	for i := range 4 {
		wantPick(t, s, 2+i)
		s.Dev().Reset(1 - i%2)
		put(t, s, drop(99)) // so that the states differ
		wantStep(t, s, true)
		wantSlot(t, s, 1-i%2)
		if got := s.Seg().State(2 + i); got != api.ZoneFree {
			t.Fatalf("zone %d has the state %d", 2+i, got)
		}
	}
	wantStep(t, s, false)
}

// TestStepWithNothingLeftFlushes has a zone with nothing in it: all else is durable too then.
func TestStepWithNothingLeftFlushes(t *testing.T) {
	s := made(t, small())
	fullOfDrops(t, s)
	put(t, s, data(1, "a"))
	wantCount(t, s, 3, 2, 0)
	wantStep(t, s, true)
	wantCount(t, s, 3, 2, 2)
	if s.Seq() != 9 {
		t.Fatalf("Seq %d: something was put", s.Seq())
	}
}

// TestStepWithoutAPick changes nothing, and makes nothing durable.
func TestStepWithoutAPick(t *testing.T) {
	s := made(t, small())
	put(t, s, data(1, "a"), data(2, "b"), data(3, "c"), data(4, "d"), data(5, "e"), data(6, "f"))
	wantStates(t, s, api.ZoneFull, api.ZoneOpen, api.ZoneFree, api.ZoneFree)
	before := tellsOf(s)
	wantPick(t, s, -1)
	wantStep(t, s, false)
	want(t, "a step without a pick", s, before)
	wantCount(t, s, 1, 0, 0)
}

// TestStepOnAFullStore has no room for what is left: what was appended stays, nothing is flushed, or marked, or emptied.
func TestStepOnAFullStore(t *testing.T) {
	s := made(t, small())
	putEach(t, s, data(1, "a"), data(2, "b"), data(3, "c"), data(4, "d"))
	put(t, s, data(11, "k"), data(12, "l"), data(13, "m"), data(14, "n"), data(15, "o"))
	put(t, s, data(16, "p"), data(17, "q"), data(18, "r"), data(19, "s"), data(20, "t"))
	put(t, s, data(21, "u"), data(22, "v"), data(21, "w"))
	wantStates(t, s, api.ZoneFull, api.ZoneFull, api.ZoneFull, api.ZoneOpen)
	wantCount(t, s, 5, 5, 0)
	before := tellsOf(s)
	wantPick(t, s, 2)
	wantStep(t, s, false)
	// Of the three blocks that were left, a record took one and two blocks two.
	wantRecords(t, s, 5, 5, before.seq+1, []api.Put{data(1, "a"), data(2, "b")})
	wantStates(t, s, api.ZoneFull, api.ZoneFull, api.ZoneFull, api.ZoneFull)
	wantAt(t, s, place(1, 2, 5, 7))
	wantAt(t, s, place(1, 3, 2, 5))
	wantCount(t, s, 5, 8, 0)
	wantCount(t, s, 2, 8, 0)
	wantCount(t, s, 1, 0, 0)
	if x := tellsOf(s); !slices.EqualFunc(x.data, before.data, bytes.Equal) {
		t.Fatal("blocks are not what they were")
	}
	before = tellsOf(s)
	wantPick(t, s, 2)
	wantStep(t, s, false)
	wantRun(t, s, 0)
	want(t, "steps on a full store", s, before)
}

// TestEmptyZonesGoOnAFullStore has no room, but a zone with nothing in it: nothing is put, so it goes.
func TestEmptyZonesGoOnAFullStore(t *testing.T) {
	s := store.On(zone.New(small()), 9, nil, []int{2, 3, 4, 5}, 0)
	if s.Put([]api.Put{drop(1)}) != api.ErrStoreFull {
		t.Fatal("there is room")
	}
	for z := 2; z < 6; z++ {
		wantPick(t, s, z)
		wantStep(t, s, true)
	}
	wantPick(t, s, -1)
	wantStep(t, s, false)
	wantStates(t, s, api.ZoneFree, api.ZoneFree, api.ZoneFree, api.ZoneFree)
}

// TestStepOfMoreThanASlotHolds has 17 blocks, one of them in the zone that is picked: it is put, and all is durable, but no checkpoint takes so many, and the zone stays.
func TestStepOfMoreThanASlotHolds(t *testing.T) {
	s := made(t, shape(8, 8, 64, 2))
	var l []api.Put
	for i := range uint64(17) {
		l = append(l, data(i, "x"))
	}
	put(t, s, l...) // five a zone; two in zone 5
	put(t, s, data(0, "y"), data(1, "y"), data(2, "y"), data(3, "y"))
	put(t, s, drop(99))
	wantPick(t, s, 2)
	before := tellsOf(s)
	wantStep(t, s, false)
	x := tellsOf(s)
	if x.seq != before.seq+1 || !slices.EqualFunc(x.data, before.data, bytes.Equal) {
		t.Fatalf("Seq %d, want %d; or blocks are not what they were", x.seq, before.seq+1)
	}
	wantAt(t, s, place(1, 4, 6, 4))
	for z := 2; z < 7; z++ {
		wantCount(t, s, z, len(x.zones[z].Blocks), len(x.zones[z].Blocks))
	}
	wantCount(t, s, 2, 8, 8)
	wantCount(t, s, 1, 0, 0)
	if s.Seg().State(2) != api.ZoneFull || s.Last(2) != before.last[2] {
		t.Fatalf("zone 2: state %d, Last %d", s.Seg().State(2), s.Last(2))
	}
	// It is picked again, with nothing in it now, and waits till a checkpoint has room.
	wantPick(t, s, 2)
	wantStep(t, s, false)
	wantRun(t, s, 0)
	want(t, "steps that no checkpoint takes", s, x)
	put(t, s, drop(16))
	wantStep(t, s, true)
	wantSlot(t, s, 1)
	wantCount(t, s, 2, 0, 0)
}

// TestStepWhereNoMarkGoes has errors of Mark: a place that is not the log's, a slot that is none.
func TestStepWhereNoMarkGoes(t *testing.T) {
	wrong := []api.Place{place(1, 9, 0, 0), place(1, 9, 1, 3), place(1, 9, 6, 0), place(1, 9, -1, 0), place(1, 9, 3, 8), place(1, 9, 3, -1)}
	for _, p := range wrong {
		s := store.On(zone.New(small()), 7, []api.Place{p}, []int{2}, 0)
		put(t, s, data(1, "a"))
		wantPick(t, s, 2)
		wantStep(t, s, false)
		wantStates(t, s, api.ZoneFull, api.ZoneOpen, api.ZoneFree, api.ZoneFree)
		wantCount(t, s, 3, 2, 2)
		wantCount(t, s, 1, 0, 0)
		put(t, s, drop(9))
		wantStep(t, s, true)
		wantSlot(t, s, 1)
	}
	for _, slot := range []int{math.MinInt, -1, 2, math.MaxInt} {
		s := store.On(zone.New(small()), 7, nil, []int{2}, slot)
		put(t, s, data(1, "a"))
		wantStep(t, s, false)
		wantStates(t, s, api.ZoneFull, api.ZoneOpen, api.ZoneFree, api.ZoneFree)
		wantCount(t, s, 3, 2, 2)
		wantCount(t, s, 0, 0, 0)
		wantCount(t, s, 1, 0, 0)
	}
}

// TestStepOfPlacesWithoutBlocks has a map that tells of places at which the device has nothing: there is nothing to put, so nothing is done.
func TestStepOfPlacesWithoutBlocks(t *testing.T) {
	for _, block := range []int{math.MinInt, -1, 1, 7, 8, 99, math.MaxInt} {
		for _, first := range []int{0, 1} {
			d := zone.New(small())
			d.Append(2, filled(64, "a"))
			l := []api.Place{place(1, 1, 2, 0), place(1, 2, 2, block)}
			s := store.On(d, 7, l[first:], []int{2}, 0)
			before := tellsOf(s)
			wantPick(t, s, 2)
			wantStep(t, s, false)
			wantRun(t, s, 0)
			want(t, "a step of what is not there", s, before)
			put(t, s, data(2, "b"))
			wantStep(t, s, true)
			wantGet(t, s, data(2, "b"))
		}
	}
}

// TestRun cleans till enough zones are free, and no further.
func TestRun(t *testing.T) {
	s := made(t, shape(8, 8, 64, 3))
	for range 5 {
		fullOfDrops(t, s)
	}
	wantRun(t, s, 3)
	wantStates(t, s, api.ZoneFree, api.ZoneFree, api.ZoneFree, api.ZoneFull, api.ZoneFull, api.ZoneFree)
	wantCount(t, s, 1, 1, 1)
	if s.Low() {
		t.Fatal("Low behind Run")
	}
	before := tellsOf(s)
	wantPick(t, s, 5)
	wantRun(t, s, 0)
	want(t, "a run where enough are free", s, before)
	wantStep(t, s, true) // a step by itself does not ask for that
}

// TestRunEndsWhereNoStepGoes has too few free zones, and nothing more that can be cleaned.
func TestRunEndsWhereNoStepGoes(t *testing.T) {
	s := made(t, small())
	fullOfDrops(t, s)
	put(t, s, data(1, "a"), data(2, "b"), data(3, "c"), data(4, "d"), data(5, "e"))
	put(t, s, data(6, "f"), data(7, "g"), data(8, "h"), data(9, "i"), data(10, "j"))
	wantStates(t, s, api.ZoneFull, api.ZoneFull, api.ZoneFull, api.ZoneFree)
	wantRun(t, s, 1)
	wantStates(t, s, api.ZoneFree, api.ZoneFull, api.ZoneFull, api.ZoneFree)
	if !s.Low() {
		t.Fatal("two zones are free, and Low is false")
	}
	before := tellsOf(s)
	wantRun(t, s, 0)
	want(t, "a run where nothing can be cleaned", s, before)
}

// TestLongRuns has runs that clean more zones than there are: what they put fills zones that are half full, and are cleaned again.
func TestLongRuns(t *testing.T) {
	for _, x := range []struct{ zones, size int }{{32, 256}, {120, 512}, {256, 1024}} {
		at := shape(x.zones, 8, x.size, x.zones-4)
		s, m := made(t, at), made(t, at)
		live := uint64(x.zones - 4)
		text := func(i uint64) []byte { return filled(x.size, string([]byte{byte(i), 1})) }
		for _, y := range []*store.Store{s, m} {
			for i := range live {
				put(t, y, api.Put{Tenant: 1, Block: i, Data: text(i)})
				for range 6 {
					put(t, y, drop(1<<40))
				}
			}
		}
		n := clean.Run(s)
		if should := run(m); n != should || n <= x.zones {
			t.Fatalf("of %d zones %d were cleaned, want %d", x.zones, n, should)
		}
		want(t, "a long run", s, tellsOf(m))
		for i := range live {
			wantGet(t, s, api.Put{Tenant: 1, Block: i, Data: text(i)})
		}
	}
}

// TestStoresAreApart has two stores of which one is cleaned.
func TestStoresAreApart(t *testing.T) {
	a, b := made(t, small()), made(t, small())
	for _, s := range []*store.Store{a, b} {
		fullOfDrops(t, s)
		fullOfDrops(t, s)
	}
	before := tellsOf(b)
	wantRun(t, a, 1)
	wantStep(t, a, true)
	wantPick(t, a, -1)
	want(t, "the other store", b, before)
	wantPick(t, b, 2)
}

// What follows is the chapter by its words alone, done to a second store that is as the first one was.

// worth is what score's chapter says, step by step.
func worth(live, total int, age uint64) float64 {
	u := float64(live) / float64(total)
	x := 1 - u
	x = float64(x * float64(age))
	return x / float64(1+u)
}

func pick(s *store.Store) int {
	at := s.Dev().Shape()
	for z := range at.Zones {
		if s.Seg().State(z) == api.ZoneFull && len(s.Map().In(z)) == 0 {
			return z
		}
	}
	best, greatest := -1, 0.0
	for z := at.Zones - 1; z >= 0; z-- {
		live := len(s.Map().In(z))
		if s.Seg().State(z) != api.ZoneFull || 2*live > at.ZoneBlocks {
			continue
		}
		if w := worth(live, at.ZoneBlocks, s.Seq()-s.Last(z)+1); w >= greatest {
			best, greatest = z, w
		}
	}
	return best
}

func step(s *store.Store) bool {
	z := pick(s)
	if z == -1 {
		return false
	}
	if in := s.Map().In(z); len(in) > 0 {
		l := make([]api.Put, len(in))
		for i, p := range in {
			b, _ := s.Get(p.Tenant, p.Block)
			l[i] = api.Put{Tenant: p.Tenant, Block: p.Block, Data: b}
		}
		if s.Put(l) != api.OK {
			return false
		}
	}
	s.Flush()
	if s.Mark() != api.OK {
		return false
	}
	s.Clear(z)
	return true
}

func run(s *store.Store) int {
	for n := range 4 * s.Dev().Shape().Zones {
		if !s.Low() || !step(s) {
			return n
		}
	}
	return 4 * s.Dev().Shape().Zones
}

// script is bytes by which steps are picked; noughts, behind its end.
type script struct{ left []byte }

func (s *script) next() int {
	if len(s.left) == 0 {
		return 0
	}
	b := s.left[0]
	s.left = s.left[1:]
	return int(b)
}

func (s *script) below(n int) int { return s.next() % n }

// list is puts of few tenants and few blocks.
func (s *script) list(size, blocks int) []api.Put {
	var l []api.Put
	for range s.below(5) {
		p := api.Put{Tenant: uint32(s.below(3)), Block: uint64(s.below(blocks)), Drop: s.below(4) == 0}
		if !p.Drop {
			p.Data = filled(size, string([]byte{byte(s.next()), 0, byte(s.next())}))
		}
		l = append(l, p)
	}
	return l
}

// opened is two stores that are the same, on devices that may hold anything.
func (s *script) opened(at api.Shape) (*store.Store, *store.Store) {
	if s.below(4) > 0 {
		return store.New(at), store.New(at)
	}
	d := zone.New(at)
	for z := range at.Zones {
		for range s.below(at.ZoneBlocks + 1) {
			d.Append(z, filled(at.Block, string([]byte{byte(s.next())})))
		}
	}
	if s.below(2) == 0 {
		d.Flush()
	}
	seq := uint64(s.next()) - 8
	var l []api.Place
	for range s.below(20) {
		l = append(l, place(uint32(s.below(3)), uint64(s.below(20)), 2+s.below(at.Zones-2), s.below(at.ZoneBlocks)))
	}
	if s.below(8) == 0 {
		l = append(l, place(1, 50, s.below(at.Zones+2)-1, s.below(at.ZoneBlocks+2)-1))
	}
	var full []int
	for range s.below(at.Zones) {
		full = append(full, s.below(at.Zones+2)-1)
	}
	slot := s.below(2)
	if s.below(16) == 0 {
		slot = 2
	}
	twin := zone.Open(at, d.Zones())
	return store.On(d, seq, l, full, slot), store.On(twin, seq, l, full, slot)
}

func shapes() []api.Shape {
	return []api.Shape{small(), shape(7, 9, 128, 3), shape(8, 16, 64, 4), shape(6, 11, 256, 2), shape(9, 8, 512, 2), shape(16, 8, 128, 4)}
}

// counts is how many steps of each kind went.
type counts struct{ puts, steps, runs, long, none, failed int }

// play does steps, one behind the other, of a store and of one that is cleaned by the words.
func play(t *testing.T, s *script, sum *counts) {
	at := shapes()[s.below(len(shapes()))]
	blocks := 1 + s.below(8)
	x, m := s.opened(at)
	for len(s.left) > 0 {
		if got, should := clean.Pick(x), pick(m); got != should {
			t.Fatalf("Pick: %d, want %d", got, should)
		}
		switch s.below(12) {
		case 0:
			none := pick(m) < 0
			should := step(m)
			wantStep(t, x, should)
			count(should, &sum.steps)
			count(none, &sum.none)
			count(!none && !should, &sum.failed)
		case 1, 2:
			should := run(m)
			wantRun(t, x, should)
			count(should > 0, &sum.runs)
			count(should > 1, &sum.long)
		default:
			l := s.list(at.Block, blocks)
			if got, should := x.Put(l), m.Put(l); got != should {
				t.Fatalf("Put: %v, want %v", got, should)
			}
			sum.puts++
		}
		want(t, "a step", x, tellsOf(m))
	}
}

func count(is bool, n *int) {
	if is {
		*n++
	}
}

// numbers are some, in an order that is always the same.
func numbers(seed uint64, count int) []byte {
	out := make([]byte, count)
	for i := range out {
		seed = seed*6364136223846793005 + 1442695040888963407
		out[i] = byte(seed >> 56)
	}
	return out
}

func TestManySteps(t *testing.T) {
	var sum counts
	for seed := range uint64(500) {
		play(t, &script{numbers(seed, 1500)}, &sum)
	}
	if min(sum.steps, sum.runs, sum.long, sum.none, sum.failed) < 100 {
		t.Fatalf("too few of some kind: %+v", sum)
	}
}

func FuzzSteps(f *testing.F) {
	for seed := range uint64(20) {
		f.Add(numbers(seed, 400))
	}
	f.Fuzz(func(t *testing.T, b []byte) { play(t, &script{b[:min(len(b), 3000)]}, new(counts)) })
}

// TestManyPicks has zones of all ages, with any number of blocks.
func TestManyPicks(t *testing.T) {
	s := script{numbers(3, 40000)}
	for len(s.left) > 40 {
		at := shape(12, 8+s.below(9), 64, 2)
		var l []of
		for range 1 + s.below(8) {
			l = append(l, of{1 + s.below(at.ZoneBlocks), 1 + s.below(at.ZoneBlocks)})
		}
		x := aged(t, at, uint64(s.below(200))-100, s.below(at.ZoneBlocks), l...)
		wantPick(t, x, pick(x))
	}
}

// TestNoStepChangesWhatGetTells holds a store that is cleaned all the time against a plain disk.
func TestNoStepChangesWhatGetTells(t *testing.T) {
	s := made(t, small())
	disk := map[uint64][]byte{}
	cleaned := 0
	picks := script{numbers(7, 40000)}
	for i := 0; len(picks.left) > 8; i++ {
		block := uint64(picks.below(5))
		cleaned += clean.Run(s)
		if picks.below(4) == 0 {
			delete(disk, block)
			put(t, s, drop(block))
		} else {
			p := data(block, string([]byte{byte(i), byte(i >> 8), 1}))
			disk[block] = p.Data
			put(t, s, p)
		}
		for range picks.below(3) {
			if clean.Step(s) {
				cleaned++
			}
		}
		for block := range uint64(5) {
			b, is := disk[block]
			if got, there := s.Get(1, block); there != is || !bytes.Equal(got, b) {
				t.Fatalf("Get(1, %d): %q, %v, want %q, %v", block, got, there, b, is)
			}
		}
	}
	if cleaned < 1000 {
		t.Fatalf("%d zones were cleaned", cleaned)
	}
}

// TestGreatStores has the greatest shapes: each call ends soon.
func TestGreatStores(t *testing.T) {
	at := shape(256, 512, 64, 250)
	s, m := made(t, at), made(t, at)
	for i := range uint64(850) {
		l := make([]api.Put, 0, 101)
		for j := range uint64(100) {
			l = append(l, data(i*j%1000, string([]byte{byte(i), byte(j), 1})))
		}
		l = append(l, drop(i))
		put(t, s, l...)
		put(t, m, l...)
	}
	if got, should := clean.Run(s), run(m); got != should || got < 100 {
		t.Fatalf("Run: %d, want %d", got, should)
	}
	want(t, "a run of a great store", s, tellsOf(m))
}
