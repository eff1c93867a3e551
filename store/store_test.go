package store_test

import (
	"bytes"
	"cmp"
	"encoding/binary"
	"hash/crc32"
	"math"
	"slices"
	"testing"

	"coaming/api"
	"coaming/ckpt"
	"coaming/rec"
	"coaming/store"
	"coaming/zone"
)

func shape(zones, blocks, block, reserve int) api.Shape {
	return api.Shape{Zones: zones, ZoneBlocks: blocks, Block: block, Reserve: reserve}
}

// small is the smallest shape that may be: a record has room for two items.
func small() api.Shape { return shape(6, 8, 64, 2) }

// farZones are numbers of zones that no shape has, some of them with the low bits of one that there is.
func farZones() []int {
	return []int{math.MinInt, math.MinInt + 2, -1 << 32, -254, -2, -1, 256, 257, 258, 1<<16 + 2, 1<<32 + 2, math.MaxInt}
}

// filled is a block of so many bytes that begins with this text.
func filled(size int, text string) []byte {
	out := make([]byte, size)
	copy(out, text)
	return out
}

// data is a block of tenant 1 in a small store that begins with this text; drop drops one.
func data(block uint64, text string) api.Put {
	return api.Put{Tenant: 1, Block: block, Data: filled(64, text)}
}

func drop(block uint64) api.Put { return api.Put{Tenant: 1, Block: block, Drop: true} }

func place(tenant uint32, block uint64, z, b int) api.Place {
	return api.Place{Tenant: tenant, Block: block, At: api.Addr{Zone: z, Block: b}}
}

func made(t *testing.T, s api.Shape) *store.Store {
	t.Helper()
	x := store.New(s)
	if x == nil {
		t.Fatalf("New(%v): nil", s)
	}
	return x
}

func wantPut(t *testing.T, s *store.Store, want api.Errno, l ...api.Put) {
	t.Helper()
	if got := s.Put(l); got != want {
		t.Fatalf("Put of %d: %v, want %v", len(l), got, want)
	}
}

func wantMark(t *testing.T, s *store.Store, want api.Errno) {
	t.Helper()
	if got := s.Mark(); got != want {
		t.Fatalf("Mark: %v, want %v", got, want)
	}
}

func wantClear(t *testing.T, s *store.Store, z int, want bool) {
	t.Helper()
	if got := s.Clear(z); got != want {
		t.Fatalf("Clear(%d): %v, want %v", z, got, want)
	}
}

func wantGet(t *testing.T, s *store.Store, tenant uint32, block uint64, want []byte) {
	t.Helper()
	if got, is := s.Get(tenant, block); !is || !bytes.Equal(got, want) {
		t.Fatalf("Get(%d, %d): %q, %v, want %q", tenant, block, got, is, want)
	}
}

func wantNoGet(t *testing.T, s *store.Store, tenant uint32, block uint64) {
	t.Helper()
	if got, is := s.Get(tenant, block); is || len(got) > 0 {
		t.Fatalf("Get(%d, %d): %q, %v, want nothing", tenant, block, got, is)
	}
}

func wantAt(t *testing.T, s *store.Store, p api.Place) {
	t.Helper()
	if got, is := s.Map().Get(p.Tenant, p.Block); !is || got != p.At {
		t.Fatalf("block %d of tenant %d is at %v, %v, want %v", p.Block, p.Tenant, got, is, p.At)
	}
}

// wantStates asks for the states of the zones from 2 on.
func wantStates(t *testing.T, s *store.Store, want ...uint8) {
	t.Helper()
	for i, state := range append([]uint8{api.ZoneKept, api.ZoneKept}, want...) {
		if got := s.Seg().State(i); got != state {
			t.Fatalf("zone %d has the state %d, want %d", i, got, state)
		}
	}
}

func wantSeq(t *testing.T, s *store.Store, want uint64) {
	t.Helper()
	if got := s.Seq(); got != want {
		t.Fatalf("Seq: %d, want %d", got, want)
	}
}

func wantLast(t *testing.T, s *store.Store, z int, want uint64) {
	t.Helper()
	if got := s.Last(z); got != want {
		t.Fatalf("Last(%d): %d, want %d", z, got, want)
	}
}

// wantCount asks for how many blocks a zone has, and how many of them are durable.
func wantCount(t *testing.T, s *store.Store, z, blocks, durable int) {
	t.Helper()
	if n, m := s.Dev().At(z); n != blocks || m != durable {
		t.Fatalf("zone %d has %d blocks, %d of them durable; want %d, %d", z, n, m, blocks, durable)
	}
}

// recordAt is the record that stands at a place.
func recordAt(t *testing.T, s *store.Store, z, block int) api.Record {
	t.Helper()
	b, errno := s.Dev().Read(api.Addr{Zone: z, Block: block})
	if errno != api.OK {
		t.Fatalf("zone %d has no block %d", z, block)
	}
	r, errno := rec.Decode(b)
	if errno != api.OK {
		t.Fatalf("zone %d, block %d is no record", z, block)
	}
	return r
}

// wantRecord asks for a record of these items at a place, and for the data behind it.
func wantRecord(t *testing.T, s *store.Store, z, block int, seq uint64, l ...api.Put) {
	t.Helper()
	r := recordAt(t, s, z, block)
	if r.Seq != seq || len(r.Items) != len(l) {
		t.Fatalf("zone %d, block %d: record %d of %d, want %d of %d", z, block, r.Seq, len(r.Items), seq, len(l))
	}
	for i, p := range l {
		if got, want := r.Items[i], itemOf(p); got != want {
			t.Fatalf("record %d: item %d is %v, want %v", seq, i, got, want)
		}
		if p.Drop {
			continue
		}
		block++
		got, errno := s.Dev().Read(api.Addr{Zone: z, Block: block})
		if errno != api.OK || !bytes.Equal(got, p.Data) {
			t.Fatalf("record %d: behind it stands %q, %v, want %q", seq, got, errno, p.Data)
		}
	}
}

// itemOf is what a record has to say of a put, with the library's sums.
func itemOf(p api.Put) api.Item {
	if p.Drop {
		return api.Item{Tenant: p.Tenant, Block: p.Block, Kind: api.ItemDrop}
	}
	ends := len(bytes.TrimRight(p.Data, "\x00"))
	return api.Item{Tenant: p.Tenant, Block: p.Block, Kind: api.ItemData, Sum: crc32.ChecksumIEEE(p.Data), End: uint16(ends)}
}

func TestErrorIsTheDocuments(t *testing.T) {
	if api.ErrStoreFull != 160 {
		t.Fatal(api.ErrStoreFull)
	}
}

func TestExample(t *testing.T) {
	s := made(t, small())
	wantPut(t, s, api.OK, data(5, "a"))
	wantSeq(t, s, 1)
	wantAt(t, s, place(1, 5, 2, 1))
	wantGet(t, s, 1, 5, filled(64, "a"))
	wantPut(t, s, api.OK, drop(5))
	wantSeq(t, s, 2)
	wantNoGet(t, s, 1, 5)
	wantCount(t, s, 2, 3, 0)
}

func TestNew(t *testing.T) {
	for _, at := range []api.Shape{small(), shape(6, 4096, 64, 2), shape(256, 8, 128, 252), shape(7, 9, 4096, 3)} {
		s := made(t, at)
		if s.Dev().Shape() != at {
			t.Fatalf("the device has the shape %v, want %v", s.Dev().Shape(), at)
		}
		want(t, "new", s, begun(at))
		st, slot, errno := ckpt.Load(s.Dev())
		if st.Seq != 0 || len(st.Places) != 0 || slot != 0 || errno != api.OK {
			t.Fatalf("Load: %v, %d, %v", st, slot, errno)
		}
		wantCount(t, s, 0, 1, 1)
		wantCount(t, s, 1, 0, 0)
	}
}

func TestNewOfWrongShapes(t *testing.T) {
	wrong := []api.Shape{
		{}, shape(5, 8, 64, 1), shape(257, 8, 64, 2), shape(6, 7, 64, 2), shape(6, 4097, 64, 2),
		shape(6, 8, 63, 2), shape(6, 8, 96, 2), shape(6, 8, 32, 2), shape(6, 8, 8192, 2),
		shape(6, 8, 64, 1), shape(6, 8, 64, 3), shape(256, 8, 64, 253),
		shape(-6, 8, 64, 2), shape(6, -8, 64, 2), shape(6, 8, -64, 2), shape(6, 8, 64, -2),
		shape(math.MaxInt, math.MaxInt, math.MinInt, math.MinInt),
	}
	for _, at := range wrong {
		if store.New(at) != nil {
			t.Errorf("New(%v) is not nil", at)
		}
	}
}

func TestPutOfNothing(t *testing.T) {
	s, m := made(t, small()), begun(small())
	wantPut(t, s, api.OK)
	wantPut(t, s, api.OK, []api.Put{}...)
	want(t, "put of nothing", s, m)
	wantStates(t, s, api.ZoneFree, api.ZoneFree, api.ZoneFree, api.ZoneFree)
}

func TestPutOfNothingWhereAllIsFull(t *testing.T) {
	s := onFull()
	wantPut(t, s, api.OK)
	wantPut(t, s, api.ErrStoreFull, drop(1))
}

// onFull is a small store all of whose zones are full, with nothing in them.
func onFull() *store.Store { return store.On(zone.New(small()), 9, nil, []int{2, 3, 4, 5}, 0) }

func TestPutOfWrongLengths(t *testing.T) {
	for _, length := range []int{0, 1, 32, 63, 65, 128, 4096} {
		wrong := api.Put{Tenant: 1, Block: 9, Data: make([]byte, length)}
		for at := range 4 {
			s, m := made(t, small()), begun(small())
			wantPut(t, s, api.OK, data(5, "a"))
			m.put([]api.Put{data(5, "a")})
			l := slices.Insert([]api.Put{data(5, "b"), drop(5), data(6, "c")}, at, wrong)
			wantPut(t, s, api.ErrArg, l...)
			want(t, "put of a wrong length", s, m)
		}
	}
}

func TestWrongLengthsAreToldAheadOfFullness(t *testing.T) {
	s := onFull()
	wantPut(t, s, api.ErrArg, data(1, "a"), api.Put{Tenant: 1, Block: 1})
	wantPut(t, s, api.ErrArg, api.Put{})
}

func TestLengthsAreThoseOfTheShape(t *testing.T) {
	for _, size := range []int{64, 128, 256, 512, 1024, 2048, 4096} {
		s := made(t, shape(6, 8, size, 2))
		for _, other := range []int{64, 128, 256, 512, 1024, 2048, 4096} {
			errno := api.ErrArg
			if size == other {
				errno = api.OK
			}
			wantPut(t, s, errno, api.Put{Data: filled(other, "a")})
		}
		wantSeq(t, s, 1)
		wantGet(t, s, 0, 0, filled(size, "a"))
	}
}

func TestDropsMayHaveAnyData(t *testing.T) {
	for _, length := range []int{0, 1, 63, 64, 65, 5000} {
		s := made(t, small())
		wantPut(t, s, api.OK, data(5, "a"))
		p := drop(5)
		p.Data = bytes.Repeat([]byte{7}, length)
		wantPut(t, s, api.OK, p)
		wantRecord(t, s, 2, 2, 2, drop(5))
		wantCount(t, s, 2, 3, 0)
		wantNoGet(t, s, 1, 5)
	}
}

func TestDropOfWhatIsNowhere(t *testing.T) {
	s := made(t, small())
	wantPut(t, s, api.OK, drop(5))
	wantSeq(t, s, 1)
	wantRecord(t, s, 2, 0, 1, drop(5))
	wantStates(t, s, api.ZoneOpen, api.ZoneFree, api.ZoneFree, api.ZoneFree)
	wantCount(t, s, 2, 1, 0)
}

func TestRecordsSayWhatStandsBehind(t *testing.T) {
	s := made(t, small())
	whole := api.Put{Tenant: math.MaxUint32, Block: math.MaxUint64, Data: bytes.Repeat([]byte{255}, 64)}
	noughts := api.Put{Tenant: 0, Block: 0, Data: make([]byte, 64)}
	inner := api.Put{Tenant: 3, Block: 1 << 40, Data: filled(64, "\x00\x00a\x00b")}
	wantPut(t, s, api.OK, whole, noughts)
	wantPut(t, s, api.OK, inner)
	wantRecord(t, s, 2, 0, 1, whole, noughts)
	wantRecord(t, s, 2, 3, 2, inner)
	for i, end := range []uint16{64, 0} {
		if got := recordAt(t, s, 2, 0).Items[i].End; got != end {
			t.Fatalf("item %d has the End %d, want %d", i, got, end)
		}
	}
	wantGet(t, s, math.MaxUint32, math.MaxUint64, whole.Data)
	wantGet(t, s, 0, 0, noughts.Data)
	wantGet(t, s, 3, 1<<40, inner.Data)
}

func TestEndsOfTheGreatestBlock(t *testing.T) {
	s := made(t, shape(6, 8, 4096, 2))
	p := api.Put{Tenant: 1, Block: 5, Data: bytes.Repeat([]byte{1}, 4096)}
	wantPut(t, s, api.OK, p)
	wantRecord(t, s, 2, 0, 1, p)
}

// TestAtMostRoom has records with as many items as there is room for.
func TestAtMostRoom(t *testing.T) {
	s := made(t, small())
	wantPut(t, s, api.OK, drop(1), drop(2), data(3, "a"), drop(4), drop(5))
	wantSeq(t, s, 3)
	wantRecord(t, s, 2, 0, 1, drop(1), drop(2))
	wantRecord(t, s, 2, 1, 2, data(3, "a"), drop(4))
	wantRecord(t, s, 2, 3, 3, drop(5))
	wantCount(t, s, 2, 4, 0)
}

func TestAtMostRoomOfGreatBlocks(t *testing.T) {
	rooms := []struct{ size, room int }{{64, 2}, {128, 5}, {256, 12}, {512, 25}, {1024, 52}, {2048, 106}, {4096, 214}}
	for _, x := range rooms {
		s := made(t, shape(6, 4096, x.size, 2))
		var l []api.Put
		for i := range x.room {
			l = append(l, api.Put{Tenant: 1, Block: uint64(i), Data: filled(x.size, "a")})
		}
		wantPut(t, s, api.OK, l...)
		wantRecord(t, s, 2, 0, 1, l...)
		wantSeq(t, s, 1)
		more := append(slices.Clone(l), drop(0))
		wantPut(t, s, api.OK, more...)
		wantRecord(t, s, 2, x.room+1, 2, l...)
		wantRecord(t, s, 2, 2*x.room+2, 3, drop(0))
		wantSeq(t, s, 3)
	}
}

// TestNoMoreDataThanRoom has records that are cut as the zone has no more room, though they might have more items.
func TestNoMoreDataThanRoom(t *testing.T) {
	at := shape(6, 8, 256, 2) // 12 items
	x := func(block uint64) api.Put {
		return api.Put{Tenant: 1, Block: block, Data: filled(256, string(rune('a'+block)))}
	}
	s := made(t, at)
	wantPut(t, s, api.OK, x(0), drop(1), x(2), x(3), x(4), drop(5), x(6), x(7), x(8), drop(9), x(10))
	wantSeq(t, s, 2)
	wantRecord(t, s, 2, 0, 1, x(0), drop(1), x(2), x(3), x(4), drop(5), x(6), x(7), x(8), drop(9))
	wantRecord(t, s, 3, 0, 2, x(10))
	wantStates(t, s, api.ZoneFull, api.ZoneOpen, api.ZoneFree, api.ZoneFree)
	wantLast(t, s, 2, 1)
	wantLast(t, s, 3, 2)
	wantAt(t, s, place(1, 8, 2, 7))
	wantAt(t, s, place(1, 10, 3, 1))
}

// TestOneBlockLeft has a zone with one block left: drops go in, but no data, nor drops behind data.
func TestOneBlockLeft(t *testing.T) {
	at := shape(6, 8, 256, 2)
	x := func(block uint64) api.Put { return api.Put{Tenant: 1, Block: block, Data: filled(256, "x")} }
	six := []api.Put{x(1), x(2), x(3), x(4), x(5), x(6)}
	s := made(t, at)
	wantPut(t, s, api.OK, six...)
	wantCount(t, s, 2, 7, 0)
	wantStates(t, s, api.ZoneOpen, api.ZoneFree, api.ZoneFree, api.ZoneFree)
	wantPut(t, s, api.OK, drop(1), drop(2), x(7), drop(3))
	wantRecord(t, s, 2, 7, 2, drop(1), drop(2))
	wantRecord(t, s, 3, 0, 3, x(7), drop(3))
	wantStates(t, s, api.ZoneFull, api.ZoneOpen, api.ZoneFree, api.ZoneFree)
	wantSeq(t, s, 3)

	s = made(t, at)
	wantPut(t, s, api.OK, six...)
	wantPut(t, s, api.OK, x(7), drop(1))
	wantCount(t, s, 2, 7, 0)
	wantRecord(t, s, 3, 0, 2, x(7), drop(1))
	wantStates(t, s, api.ZoneFull, api.ZoneOpen, api.ZoneFree, api.ZoneFree)
	wantLast(t, s, 2, 1)
}

// TestTwoBlocksLeft has a zone with room for a record and one block: what needs them makes it full.
func TestTwoBlocksLeft(t *testing.T) {
	for _, drops := range []int{0, 1} {
		s := made(t, small())
		wantPut(t, s, api.OK, data(1, "a"), data(2, "b"), data(3, "c"), data(4, "d"))
		wantCount(t, s, 2, 6, 0)
		l := append([]api.Put{data(5, "e")}, []api.Put{drop(1)}[:drops]...)
		wantPut(t, s, api.OK, l...)
		wantRecord(t, s, 2, 6, 3, l...)
		wantStates(t, s, api.ZoneFull, api.ZoneFree, api.ZoneFree, api.ZoneFree)
		wantSeq(t, s, 3)
		wantGet(t, s, 1, 5, filled(64, "e"))
	}
}

func TestZonesOneBehindTheOther(t *testing.T) {
	s := made(t, small())
	for i := range 32 {
		wantPut(t, s, api.OK, drop(uint64(i)))
		z := 2 + i/8
		wantRecord(t, s, z, i%8, uint64(i+1), drop(uint64(i)))
		wantLast(t, s, z, uint64(i+1))
		state := api.ZoneOpen
		if i%8 == 7 {
			state = api.ZoneFull
		}
		if got := s.Seg().State(z); got != state {
			t.Fatalf("behind record %d zone %d has the state %d, want %d", i+1, z, got, state)
		}
		if got := s.Low(); got != (i >= 8) {
			t.Fatalf("behind record %d Low is %v", i+1, got)
		}
	}
	wantPut(t, s, api.ErrStoreFull, drop(0))
	wantSeq(t, s, 32)
}

func TestFullStore(t *testing.T) {
	s, m := made(t, small()), begun(small())
	var l []api.Put
	for i := range uint64(40) {
		l = append(l, data(i, "x"))
	}
	// 2, 2 and 1 of each zone's eight blocks: five of four zones.
	wantPut(t, s, api.ErrStoreFull, l...)
	m.put(l)
	want(t, "a full store", s, m)
	wantSeq(t, s, 12)
	for i := range uint64(40) {
		if i < 20 {
			wantGet(t, s, 1, i, filled(64, "x"))
		} else {
			wantNoGet(t, s, 1, i)
		}
	}
	wantStates(t, s, api.ZoneFull, api.ZoneFull, api.ZoneFull, api.ZoneFull)
	for _, p := range []api.Put{data(1, "y"), drop(1)} {
		wantPut(t, s, api.ErrStoreFull, p)
	}
	want(t, "a full store that was asked again", s, m)
}

// TestLastZoneIsFullThoughNothingGoesIn has data that make the last zone full, and go nowhere: a drop has no room then either.
func TestLastZoneIsFullThoughNothingGoesIn(t *testing.T) {
	d := zone.New(small())
	for range 7 {
		d.Append(5, filled(64, ""))
	}
	s := store.On(d, 3, nil, []int{2, 3, 4}, 0)
	wantPut(t, s, api.ErrStoreFull, data(1, "a"))
	wantStates(t, s, api.ZoneFull, api.ZoneFull, api.ZoneFull, api.ZoneFull)
	wantPut(t, s, api.ErrStoreFull, drop(1))
	wantSeq(t, s, 3)
	wantLast(t, s, 5, 0)
	wantCount(t, s, 5, 7, 0)
}

func TestMapFollowsInOrder(t *testing.T) {
	s := made(t, small())
	wantPut(t, s, api.OK, data(5, "a"), data(5, "b"))
	wantGet(t, s, 1, 5, filled(64, "b"))
	wantAt(t, s, place(1, 5, 2, 2))
	wantPut(t, s, api.OK, data(5, "c"), drop(5))
	wantNoGet(t, s, 1, 5)
	wantPut(t, s, api.OK, drop(5), data(5, "d"))
	wantGet(t, s, 1, 5, filled(64, "d"))
	if got := s.Map().All(); len(got) != 1 {
		t.Fatalf("the map has %v", got)
	}
}

func TestTenantsAreApart(t *testing.T) {
	s := made(t, small())
	one, two := data(5, "one"), data(5, "two")
	two.Tenant = 2
	wantPut(t, s, api.OK, one, two)
	wantNoGet(t, s, 0, 5)
	wantNoGet(t, s, 3, 5)
	gone := drop(5)
	gone.Tenant = 2
	wantPut(t, s, api.OK, gone)
	wantGet(t, s, 1, 5, one.Data)
	wantNoGet(t, s, 2, 5)
	wantNoGet(t, s, 1, 4)
	wantNoGet(t, s, 1, 5+1<<32)
}

func TestFlush(t *testing.T) {
	s := made(t, small())
	wantPut(t, s, api.OK, data(1, "a"), data(2, "b"), data(3, "c"), data(4, "d"), data(5, "e"), data(6, "f"))
	wantCount(t, s, 2, 8, 0)
	wantCount(t, s, 3, 2, 0)
	s.Flush()
	wantCount(t, s, 2, 8, 8)
	wantCount(t, s, 3, 2, 2)
	wantPut(t, s, api.OK, drop(1))
	wantCount(t, s, 3, 3, 2)
	wantSeq(t, s, 5)
}

func TestMarksGoByTurns(t *testing.T) {
	s := made(t, small())
	for i := range uint64(6) {
		wantPut(t, s, api.OK, data(i%2, "a"))
		wantMark(t, s, api.OK)
		st, slot, errno := ckpt.Load(s.Dev())
		if errno != api.OK || slot != int(1-i%2) || st.Seq != i+1 || !slices.Equal(st.Places, s.Map().All()) {
			t.Fatalf("behind mark %d Load: %v, %d, %v", i+1, st, slot, errno)
		}
	}
}

func TestMarkMakesAllDurable(t *testing.T) {
	s := made(t, small())
	wantPut(t, s, api.OK, data(1, "a"))
	wantMark(t, s, api.OK)
	wantCount(t, s, 2, 2, 2)
	wantCount(t, s, 1, 1, 1)
	wantSeq(t, s, 1)
}

// TestMarksOfTheSameState has two checkpoints alike, in both slots.
func TestMarksOfTheSameState(t *testing.T) {
	s := made(t, small())
	wantPut(t, s, api.OK, data(1, "a"), data(2, "b"), data(3, "c"))
	for _, slot := range []int{1, 0, 1} {
		s.Dev().Reset(slot)
		wantMark(t, s, api.OK)
		wantCount(t, s, slot, 2, 2)
	}
}

func TestMarkOfMoreThanASlotHolds(t *testing.T) {
	s, m := made(t, small()), begun(small())
	var l []api.Put
	for i := range uint64(17) {
		l = append(l, data(i, "x"))
	}
	wantPut(t, s, api.OK, l...)
	m.put(l)
	// A block of 64 bytes has two places, a slot eight blocks: 16 places fit.
	wantMark(t, s, api.ErrCkptLong)
	want(t, "a mark of too much", s, m)
	wantPut(t, s, api.OK, drop(3))
	m.put([]api.Put{drop(3)})
	wantMark(t, s, api.OK)
	m.mark()
	want(t, "a mark of what fits", s, m)
	wantCount(t, s, 1, 8, 8)
	if _, slot, errno := ckpt.Load(s.Dev()); slot != 1 || errno != api.OK {
		t.Fatalf("Load: %d, %v", slot, errno)
	}
}

func TestMarkOfPlacesThatAreNotTheLogs(t *testing.T) {
	wrong := []api.Addr{{Zone: 0}, {Zone: 1, Block: 1}, {Zone: 6}, {Zone: -1}, {Zone: 2, Block: -1}, {Zone: 2, Block: 8}, {Zone: math.MaxInt, Block: math.MinInt}}
	for _, a := range wrong {
		d := zone.New(small())
		d.Append(1, filled(64, "stays"))
		s := store.On(d, 7, []api.Place{{Tenant: 1, Block: 5, At: a}}, nil, 0)
		wantMark(t, s, api.ErrCkptForm)
		wantCount(t, s, 1, 1, 0)
		wantCount(t, s, 0, 0, 0)
		wantAt(t, s, api.Place{Tenant: 1, Block: 5, At: a})
		wantPut(t, s, api.OK, data(5, "a"))
		wantMark(t, s, api.OK)
		if st, slot, errno := ckpt.Load(d); st.Seq != 8 || slot != 1 || errno != api.OK {
			t.Fatalf("Load: %v, %d, %v", st, slot, errno)
		}
	}
}

func TestMarkWhereTheLastOneIsInNoSlot(t *testing.T) {
	for _, slot := range []int{math.MinInt, math.MinInt + 1, -2, -1, 2, 3, 256, 1 << 32, 1<<32 + 1, math.MaxInt} {
		d := zone.New(small())
		// A place that is not the log's is wrong too, but the slot is told first.
		for _, l := range [][]api.Place{nil, {place(1, 2, 0, 0)}} {
			s := store.On(d, 7, l, nil, slot)
			wantMark(t, s, api.ErrArg)
			wantMark(t, s, api.ErrArg)
			wantCount(t, s, 0, 0, 0)
			wantCount(t, s, 1, 0, 0)
		}
	}
}

func TestOnASlot(t *testing.T) {
	for slot := range 2 {
		d := zone.New(small())
		s := store.On(d, 7, []api.Place{place(1, 2, 3, 4)}, nil, slot)
		wantMark(t, s, api.OK)
		wantCount(t, s, slot, 0, 0)
		wantCount(t, s, 1-slot, 1, 1)
		wantMark(t, s, api.OK)
		wantCount(t, s, slot, 1, 1)
	}
}

// clearable is a small store whose zone 2 is full and has nothing, whose zone 3 is full and has one block, whose zone 4 is open and has nothing.
func clearable(t *testing.T) *store.Store {
	t.Helper()
	s := made(t, small())
	for range 8 {
		wantPut(t, s, api.OK, drop(9))
	}
	wantPut(t, s, api.OK, data(1, "a"), data(2, "b"), data(3, "c"), data(4, "d"), data(5, "e"))
	wantPut(t, s, api.OK, drop(1), drop(2), drop(3), drop(4))
	wantStates(t, s, api.ZoneFull, api.ZoneFull, api.ZoneOpen, api.ZoneFree)
	wantSeq(t, s, 13)
	wantLast(t, s, 2, 8)
	wantLast(t, s, 3, 11)
	return s
}

func TestClear(t *testing.T) {
	s := clearable(t)
	if !s.Low() {
		t.Fatal("one zone is free, and Low is false")
	}
	before := s.Dev().Zones()
	for _, z := range append(farZones(), 0, 1, 3, 4, 5, 6) {
		wantClear(t, s, z, false)
	}
	if !slices.EqualFunc(s.Dev().Zones(), before, sameZone) {
		t.Fatal("Clear that is false changed the device")
	}
	wantStates(t, s, api.ZoneFull, api.ZoneFull, api.ZoneOpen, api.ZoneFree)
	wantLast(t, s, 2, 8)
	wantLast(t, s, 3, 11)
	wantLast(t, s, 4, 13)

	wantClear(t, s, 2, true)
	wantStates(t, s, api.ZoneFree, api.ZoneFull, api.ZoneOpen, api.ZoneFree)
	wantCount(t, s, 2, 0, 0)
	wantLast(t, s, 2, 0)
	wantClear(t, s, 2, false)
	wantSeq(t, s, 13)
	wantLast(t, s, 3, 11)
	wantCount(t, s, 3, 8, 0)
	wantGet(t, s, 1, 5, filled(64, "e"))

	wantPut(t, s, api.OK, drop(5))
	wantClear(t, s, 3, true)
	wantStates(t, s, api.ZoneFree, api.ZoneFree, api.ZoneOpen, api.ZoneFree)
	if s.Low() {
		t.Fatal("three zones are free, and Low is true")
	}
}

// TestClearedZonesAreOpenedAgain has the lowest free zone opened next.
func TestClearedZonesAreOpenedAgain(t *testing.T) {
	s := clearable(t)
	wantClear(t, s, 2, true)
	for range 6 {
		wantPut(t, s, api.OK, drop(9))
	}
	wantStates(t, s, api.ZoneFree, api.ZoneFull, api.ZoneFull, api.ZoneFree)
	wantPut(t, s, api.OK, data(7, "g"))
	wantAt(t, s, place(1, 7, 2, 1))
	wantLast(t, s, 2, 20)
	wantStates(t, s, api.ZoneOpen, api.ZoneFull, api.ZoneFull, api.ZoneFree)
}

func TestClearIsForGood(t *testing.T) {
	s := clearable(t)
	s.Flush()
	wantClear(t, s, 2, true)
	s.Dev().Crash(nil)
	wantCount(t, s, 2, 0, 0)
}

// TestClearOfAPlaceBeyondTheZone has a zone that is not cleared since the map says that a block is in it, wherever.
func TestClearOfAPlaceBeyondTheZone(t *testing.T) {
	s := store.On(zone.New(small()), 7, []api.Place{place(1, 5, 3, 99)}, []int{2, 3}, 0)
	wantClear(t, s, 3, false)
	wantClear(t, s, 2, true)
	wantPut(t, s, api.OK, drop(5))
	wantClear(t, s, 3, true)
}

func TestLastOfNoZone(t *testing.T) {
	s := clearable(t)
	for _, z := range append(farZones(), 0, 1, 5, 6) {
		wantLast(t, s, z, 0)
	}
}

func TestOnIsOnTheDeviceItself(t *testing.T) {
	d := zone.New(small())
	s := store.On(d, 7, nil, nil, 0)
	if s.Dev() != d {
		t.Fatal("it is another device")
	}
	wantSeq(t, s, 7)
	wantCount(t, s, 0, 0, 0)
	wantStates(t, s, api.ZoneFree, api.ZoneFree, api.ZoneFree, api.ZoneFree)
	for z := range 6 {
		wantLast(t, s, z, 0)
	}
	wantPut(t, s, api.OK, data(5, "a"))
	if n, _ := d.At(2); n != 2 {
		t.Fatalf("zone 2 has %d blocks", n)
	}
	wantRecord(t, s, 2, 0, 8, data(5, "a"))
}

func TestOnPlaces(t *testing.T) {
	d := zone.New(small())
	for i := range 4 {
		d.Append(3, filled(64, string(rune('a'+i))))
	}
	l := []api.Place{place(1, 5, 3, 0), place(1, 6, 3, 1), place(1, 5, 3, 2), place(2, 7, 3, 1), place(1, 8, 3, 0)}
	s := store.On(d, 7, l, []int{3}, 0)
	want := []api.Place{place(1, 5, 3, 2), place(1, 8, 3, 0), place(2, 7, 3, 1)}
	if got := s.Map().All(); !slices.Equal(got, want) {
		t.Fatalf("the map has %v, want %v", got, want)
	}
	wantGet(t, s, 1, 5, filled(64, "c"))
	wantGet(t, s, 1, 8, filled(64, "a"))
	wantGet(t, s, 2, 7, filled(64, "b"))
	wantNoGet(t, s, 1, 6)
}

// TestOnPlacesThatTheDeviceHasNot has nothing to tell where the device has no block.
func TestOnPlacesThatTheDeviceHasNot(t *testing.T) {
	d := zone.New(small())
	d.Append(2, filled(64, "a"))
	spots := []api.Addr{{Zone: 2, Block: 1}, {Zone: 2, Block: -1}, {Zone: 2, Block: math.MaxInt}, {Zone: 3}, {Zone: 6}, {Zone: -1}, {Zone: math.MinInt, Block: math.MinInt}}
	for _, a := range spots {
		s := store.On(d, 7, []api.Place{{Tenant: 1, Block: 5, At: a}}, nil, 0)
		wantNoGet(t, s, 1, 5)
		wantAt(t, s, api.Place{Tenant: 1, Block: 5, At: a})
	}
	s := store.On(d, 7, []api.Place{place(1, 5, 2, 0)}, nil, 0)
	wantGet(t, s, 1, 5, filled(64, "a"))
}

func TestOnFullZones(t *testing.T) {
	s := store.On(zone.New(small()), 7, nil, []int{4, 2, 4}, 0)
	wantStates(t, s, api.ZoneFull, api.ZoneFree, api.ZoneFull, api.ZoneFree)
	for z, last := range []uint64{0, 0, 7, 0, 7, 0} {
		wantLast(t, s, z, last)
	}
	wantPut(t, s, api.OK, data(5, "a"))
	wantAt(t, s, place(1, 5, 3, 1))
	wantLast(t, s, 3, 8)
	wantLast(t, s, 2, 7)
	wantClear(t, s, 2, true)
	wantLast(t, s, 2, 0)
}

// TestOnZonesThatCannotBeFull has slots, which hold no records, and zones that are not there.
func TestOnZonesThatCannotBeFull(t *testing.T) {
	wrong := append(farZones(), 0, 1, 6)
	s := store.On(zone.New(small()), 7, nil, append(wrong, 3), 0)
	wantStates(t, s, api.ZoneFree, api.ZoneFull, api.ZoneFree, api.ZoneFree)
	for _, z := range wrong {
		wantLast(t, s, z, 0)
	}
	wantLast(t, s, 3, 7)
}

// TestOnFreeZonesThatHoldSomething has records appended behind what is there; where there is no room the zone is full.
func TestOnFreeZonesThatHoldSomething(t *testing.T) {
	d := zone.New(small())
	for z, count := range []int{0, 0, 8, 7, 5, 0} {
		for range count {
			d.Append(z, filled(64, "old"))
		}
	}
	s := store.On(d, 7, nil, nil, 0)
	wantStates(t, s, api.ZoneFree, api.ZoneFree, api.ZoneFree, api.ZoneFree)
	wantPut(t, s, api.OK, data(5, "a"), data(6, "b"), data(7, "c"))
	wantStates(t, s, api.ZoneFull, api.ZoneFull, api.ZoneFull, api.ZoneOpen)
	wantRecord(t, s, 4, 5, 8, data(5, "a"), data(6, "b"))
	wantRecord(t, s, 5, 0, 9, data(7, "c"))
	for z, last := range []uint64{0, 0, 0, 0, 8, 9} {
		wantLast(t, s, z, last)
	}
	wantCount(t, s, 3, 7, 0)
	wantClear(t, s, 3, true)
	wantCount(t, s, 3, 0, 0)
}

// TestOnPlacesWhereDataGo has places of which the device had no block: what is appended there is the block that is there.
func TestOnPlacesWhereDataGo(t *testing.T) {
	s := store.On(zone.New(small()), 7, []api.Place{place(2, 9, 2, 1), place(2, 8, 2, 2)}, nil, 0)
	wantPut(t, s, api.OK, data(5, "a"))
	wantNoGet(t, s, 2, 9)
	if got, want := s.Map().All(), []api.Place{place(1, 5, 2, 1), place(2, 8, 2, 2)}; !slices.Equal(got, want) {
		t.Fatalf("the map has %v, want %v", got, want)
	}
}

func TestSeqWraps(t *testing.T) {
	s := store.On(zone.New(small()), math.MaxUint64-1, nil, []int{2}, 1)
	wantLast(t, s, 2, math.MaxUint64-1)
	wantPut(t, s, api.OK, drop(1))
	wantSeq(t, s, math.MaxUint64)
	wantPut(t, s, api.OK, drop(1), drop(2), drop(3))
	wantSeq(t, s, 1)
	wantRecord(t, s, 3, 1, 0, drop(1), drop(2))
	wantRecord(t, s, 3, 2, 1, drop(3))
	wantLast(t, s, 3, 1)
}

func TestStoresAreApart(t *testing.T) {
	a, b := made(t, small()), made(t, small())
	wantPut(t, a, api.OK, data(5, "a"))
	want(t, "another store", b, begun(small()))
	wantPut(t, b, api.OK, data(5, "b"))
	wantMark(t, a, api.OK)
	wantGet(t, a, 1, 5, filled(64, "a"))
	wantGet(t, b, 1, 5, filled(64, "b"))
	wantCount(t, b, 1, 0, 0)
}

// TestTwoStoresOnOneDevice share its zones' room, and nothing else.
func TestTwoStoresOnOneDevice(t *testing.T) {
	d := zone.New(small())
	a, b := store.On(d, 0, nil, nil, 0), store.On(d, 50, nil, nil, 0)
	wantPut(t, a, api.OK, data(5, "a"))
	wantPut(t, b, api.OK, data(5, "b"), data(6, "c"))
	wantPut(t, a, api.OK, data(7, "d"))
	wantRecord(t, a, 2, 0, 1, data(5, "a"))
	wantRecord(t, a, 2, 2, 51, data(5, "b"), data(6, "c"))
	wantRecord(t, a, 2, 5, 2, data(7, "d"))
	wantPut(t, a, api.OK, drop(5))
	wantStates(t, a, api.ZoneFull, api.ZoneFree, api.ZoneFree, api.ZoneFree)
	wantStates(t, b, api.ZoneOpen, api.ZoneFree, api.ZoneFree, api.ZoneFree)
	wantPut(t, b, api.OK, drop(5))
	wantRecord(t, b, 3, 0, 52, drop(5))
	wantStates(t, b, api.ZoneFull, api.ZoneOpen, api.ZoneFree, api.ZoneFree)
	wantNoGet(t, a, 1, 6)
	wantGet(t, b, 1, 6, filled(64, "c"))
}

// TestItsOwnAreHandedOut has what a store stands on follow what the store does.
func TestItsOwnAreHandedOut(t *testing.T) {
	s := made(t, small())
	d, g, m := s.Dev(), s.Seg(), s.Map()
	wantPut(t, s, api.OK, data(5, "a"))
	if d != s.Dev() || g != s.Seg() || m != s.Map() {
		t.Fatal("they are others now")
	}
	if n, _ := d.At(2); n != 2 || g.State(2) != api.ZoneOpen || m.Count(1) != 1 {
		t.Fatalf("zone 2: %d blocks, state %d; tenant 1: %d blocks", n, g.State(2), m.Count(1))
	}
}

func TestWhatIsHandedInIsNeitherChangedNorKept(t *testing.T) {
	s := made(t, small())
	l := []api.Put{data(5, "a"), drop(6), data(7, "b")}
	before := []api.Put{data(5, "a"), drop(6), data(7, "b")}
	wantPut(t, s, api.OK, l...)
	for i := range l {
		if l[i].Tenant != before[i].Tenant || l[i].Block != before[i].Block || l[i].Drop != before[i].Drop || !bytes.Equal(l[i].Data, before[i].Data) {
			t.Fatalf("put %d is %v now", i, l[i])
		}
	}
	clear(l[0].Data)
	l[2] = data(5, "c")
	wantGet(t, s, 1, 5, filled(64, "a"))
	wantGet(t, s, 1, 7, filled(64, "b"))

	places, full := []api.Place{place(1, 5, 2, 1)}, []int{2}
	again := store.On(s.Dev(), 9, places, full, 0)
	if places[0] != place(1, 5, 2, 1) || full[0] != 2 {
		t.Fatalf("On made them %v, %v", places, full)
	}
	places[0], full[0] = place(1, 6, 3, 3), 3
	wantAt(t, again, place(1, 5, 2, 1))
	wantStates(t, again, api.ZoneFull, api.ZoneFree, api.ZoneFree, api.ZoneFree)
	wantLast(t, again, 3, 0)
}

func TestBehindTheLengthIsNotRead(t *testing.T) {
	s, m := made(t, small()), begun(small())
	l := []api.Put{data(5, "a"), {Tenant: 1, Block: 6, Data: []byte{1}}}
	wantPut(t, s, api.OK, l[:1]...)
	m.put(l[:1])
	long := filled(128, "b")
	long[100] = 'c'
	wantPut(t, s, api.OK, api.Put{Tenant: 1, Block: 7, Data: long[:64]})
	m.put([]api.Put{data(7, "b")})
	want(t, "lists with more behind", s, m)
	if l[1].Block != 6 || long[100] != 'c' {
		t.Fatal("what lies behind was written")
	}
	places, full := []api.Place{place(1, 5, 2, 1), place(1, 6, 2, 2)}, []int{2, 3}
	again := store.On(s.Dev(), 9, places[:1], full[:1], 0)
	if got := again.Map().All(); len(got) != 1 {
		t.Fatalf("the map has %v", got)
	}
	wantStates(t, again, api.ZoneFull, api.ZoneFree, api.ZoneFree, api.ZoneFree)
}

func TestGetIsNewMemory(t *testing.T) {
	s := made(t, small())
	wantPut(t, s, api.OK, data(5, "a"))
	first, _ := s.Get(1, 5)
	for i := range first {
		first[i] = 9
	}
	_ = append(first, 9)
	wantGet(t, s, 1, 5, filled(64, "a"))
	second, _ := s.Get(1, 5)
	third, _ := s.Get(1, 5)
	second[0] = 7
	if third[0] != 'a' {
		t.Fatal("two answers share memory")
	}
}

// name says which block of which tenant it is.
type name struct {
	tenant uint32
	block  uint64
}

// model is a store by the document's words alone.
type model struct {
	shape   api.Shape
	zones   [][][]byte
	durable []int
	states  []uint8
	last    []uint64
	at      map[name]api.Addr
	seq     uint64
	slot    int
}

func empty(s api.Shape) *model {
	m := &model{shape: s, zones: make([][][]byte, s.Zones), durable: make([]int, s.Zones), last: make([]uint64, s.Zones), at: map[name]api.Addr{}}
	m.states = slices.Repeat([]uint8{api.ZoneFree}, s.Zones)
	m.states[0], m.states[1] = api.ZoneKept, api.ZoneKept
	return m
}

func begun(s api.Shape) *model {
	m := empty(s)
	m.save(0)
	return m
}

// save is what ckpt.Save does.
func (m *model) save(slot int) api.Errno {
	if slot != 0 && slot != 1 {
		return api.ErrArg
	}
	l, errno := ckpt.Encode(m.shape, api.State{Seq: m.seq, Places: m.all()})
	if errno != api.OK {
		return errno
	}
	m.zones[slot] = l
	m.flush()
	return api.OK
}

func (m *model) flush() {
	for z := range m.zones {
		m.durable[z] = len(m.zones[z])
	}
}

func (m *model) mark() api.Errno {
	other := map[int]int{0: 1, 1: 0}
	slot, is := other[m.slot]
	if !is {
		return api.ErrArg
	}
	errno := m.save(slot)
	if errno == api.OK {
		m.slot = slot
	}
	return errno
}

func (m *model) all() []api.Place {
	var out []api.Place
	for n, a := range m.at {
		out = append(out, api.Place{Tenant: n.tenant, Block: n.block, At: a})
	}
	slices.SortFunc(out, func(a, b api.Place) int {
		return cmp.Or(cmp.Compare(a.Tenant, b.Tenant), cmp.Compare(a.Block, b.Block))
	})
	return out
}

func (m *model) clear(z int) bool {
	if z < 0 || z >= m.shape.Zones || m.states[z] != api.ZoneFull {
		return false
	}
	for _, a := range m.at {
		if a.Zone == z {
			return false
		}
	}
	m.zones[z], m.durable[z], m.last[z], m.states[z] = nil, 0, 0, api.ZoneFree
	return true
}

// goes says that a block is at a place, and nothing else is.
func (m *model) goes(n name, a api.Addr) {
	for other, at := range m.at {
		if at == a {
			delete(m.at, other)
		}
	}
	m.at[n] = a
}

func (m *model) put(l []api.Put) api.Errno {
	for _, p := range l {
		if !p.Drop && len(p.Data) != m.shape.Block {
			return api.ErrArg
		}
	}
	for len(l) > 0 {
		z := slices.Index(m.states, api.ZoneOpen)
		if z < 0 {
			z = slices.Index(m.states, api.ZoneFree)
		}
		if z < 0 {
			return api.ErrStoreFull
		}
		m.states[z] = api.ZoneOpen
		room := m.shape.ZoneBlocks - len(m.zones[z])
		if room == 0 || room == 1 && !l[0].Drop {
			m.states[z] = api.ZoneFull
			continue
		}
		n := most(l, (m.shape.Block-19)/19, room-1)
		m.record(z, l[:n])
		l = l[n:]
	}
	return api.OK
}

// most is the greatest number of front ones of which no more have data than that.
func most(l []api.Put, items, data int) int {
	for n := min(len(l), items); n > 0; n-- {
		count := 0
		for _, p := range l[:n] {
			if !p.Drop {
				count++
			}
		}
		if count <= data {
			return n
		}
	}
	panic("not even the first one goes in")
}

func (m *model) record(z int, l []api.Put) {
	m.seq++
	r := api.Record{Seq: m.seq}
	for _, p := range l {
		r.Items = append(r.Items, itemOf(p))
	}
	b, errno := rec.Encode(r, m.shape.Block)
	if errno != api.OK {
		panic(errno)
	}
	m.zones[z] = append(m.zones[z], b)
	for _, p := range l {
		n := name{p.Tenant, p.Block}
		if p.Drop {
			delete(m.at, n)
			continue
		}
		m.goes(n, api.Addr{Zone: z, Block: len(m.zones[z])})
		m.zones[z] = append(m.zones[z], bytes.Clone(p.Data))
	}
	m.last[z] = m.seq
	if len(m.zones[z]) == m.shape.ZoneBlocks {
		m.states[z] = api.ZoneFull
	}
}

// get is a block's data.
func (m *model) get(n name) []byte {
	a, is := m.at[n]
	if !is || a.Zone < 0 || a.Zone >= m.shape.Zones || a.Block < 0 || a.Block >= len(m.zones[a.Zone]) {
		return nil
	}
	return m.zones[a.Zone][a.Block]
}

func (m *model) low() bool {
	free := 0
	for _, state := range m.states {
		if state == api.ZoneFree {
			free++
		}
	}
	return free <= m.shape.Reserve
}

func sameZone(a, b api.Zone) bool {
	return a.Durable == b.Durable && slices.EqualFunc(a.Blocks, b.Blocks, bytes.Equal)
}

// want asks for all that a store tells without being changed.
func want(t *testing.T, what string, s *store.Store, m *model) {
	t.Helper()
	if s.Seq() != m.seq || s.Low() != m.low() {
		t.Fatalf("%s: Seq %d, Low %v, want %d, %v", what, s.Seq(), s.Low(), m.seq, m.low())
	}
	for z, zone := range s.Dev().Zones() {
		if !sameZone(zone, api.Zone{Blocks: m.zones[z], Durable: m.durable[z]}) {
			t.Fatalf("%s: zone %d has %d blocks, %d durable, want %d, %d; or they differ", what, z, len(zone.Blocks), zone.Durable, len(m.zones[z]), m.durable[z])
		}
		if s.Seg().State(z) != m.states[z] || s.Last(z) != m.last[z] {
			t.Fatalf("%s: zone %d: state %d, Last %d, want %d, %d", what, z, s.Seg().State(z), s.Last(z), m.states[z], m.last[z])
		}
	}
	for _, z := range append(farZones(), m.shape.Zones) {
		if s.Last(z) != 0 {
			t.Fatalf("%s: Last(%d): %d, want 0", what, z, s.Last(z))
		}
	}
	all := m.all()
	if got := s.Map().All(); !slices.Equal(got, all) {
		t.Fatalf("%s: the map has %v, want %v", what, got, all)
	}
	for _, p := range all {
		data := m.get(name{p.Tenant, p.Block})
		if got, is := s.Get(p.Tenant, p.Block); is != (data != nil) || !bytes.Equal(got, data) {
			t.Fatalf("%s: Get(%d, %d): %q, %v, want %q", what, p.Tenant, p.Block, got, is, data)
		}
	}
}

// script is bytes by which steps are picked; noughts, behind its end.
type script struct{ left []byte }

func (s *script) next() int {
	if len(s.left) == 0 {
		return 0
	}
	b := s.left[0]
	s.left = s.left[1:]
	return int(b)
}

func (s *script) below(n int) int { return s.next() % n }

// list is puts of few tenants and few blocks, most of them right.
func (s *script) list(size int) []api.Put {
	var l []api.Put
	for range s.below(12) {
		kind := s.next()
		p := api.Put{Tenant: uint32(s.below(3)), Block: uint64(s.below(6)), Drop: kind%3 == 0}
		if kind == 255 {
			p.Data = make([]byte, s.next())
		} else if !p.Drop || kind%2 == 0 {
			p.Data = filled(size, string([]byte{byte(s.next()), byte(kind), 0, byte(s.next())}))
		}
		l = append(l, p)
	}
	return l
}

// opened is a store, and its model, on a device that may hold anything.
func (s *script) opened(at api.Shape) (*store.Store, *model) {
	if s.below(4) == 0 {
		return store.New(at), begun(at)
	}
	m, d := empty(at), zone.New(at)
	for z := range at.Zones {
		for range s.below(at.ZoneBlocks + 1) {
			b := filled(at.Block, string([]byte{byte(s.next())}))
			d.Append(z, b)
			m.zones[z] = append(m.zones[z], b)
		}
	}
	if s.below(2) == 0 {
		d.Flush()
		m.flush()
	}
	m.seq = uint64(s.next()) - 8
	var l []api.Place
	for range s.below(8) {
		p := place(uint32(s.below(3)), uint64(s.below(6)), s.below(at.Zones+2)-1, s.below(at.ZoneBlocks+2)-1)
		l = append(l, p)
		m.goes(name{p.Tenant, p.Block}, p.At)
	}
	var full []int
	for range s.below(at.Zones) {
		z := s.below(at.Zones+2) - 1
		full = append(full, z)
		if z >= 2 && z < at.Zones {
			m.states[z], m.last[z] = api.ZoneFull, m.seq
		}
	}
	m.slot = s.below(3)
	return store.On(d, m.seq, l, full, m.slot), m
}

func shapes() []api.Shape {
	return []api.Shape{small(), shape(7, 9, 128, 3), shape(8, 16, 64, 4), shape(6, 11, 256, 2), shape(9, 8, 512, 2)}
}

// play does steps, one behind the other, of a store and of its model.
func play(t *testing.T, s *script) {
	at := shapes()[s.below(len(shapes()))]
	x, m := s.opened(at)
	want(t, "the beginning", x, m)
	for len(s.left) > 0 {
		switch kind := s.below(16); kind {
		case 0:
			x.Flush()
			m.flush()
		case 1, 2:
			wantMark(t, x, m.mark())
		case 3, 4, 5, 6:
			z := s.below(at.Zones+2) - 1
			wantClear(t, x, z, m.clear(z))
		default:
			l := s.list(at.Block)
			wantPut(t, x, m.put(l), l...)
		}
		want(t, "a step", x, m)
	}
}

// numbers are some, in an order that is always the same.
func numbers(seed uint64, count int) []byte {
	out := make([]byte, count)
	for i := range out {
		seed = seed*6364136223846793005 + 1442695040888963407
		out[i] = byte(seed >> 56)
	}
	return out
}

func TestManySteps(t *testing.T) {
	for seed := range uint64(600) {
		play(t, &script{numbers(seed, 2000)})
	}
}

func FuzzSteps(f *testing.F) {
	for seed := range uint64(20) {
		f.Add(numbers(seed, 400))
	}
	f.Fuzz(func(t *testing.T, b []byte) { play(t, &script{b[:min(len(b), 4000)]}) })
}

// TestGetTellsWhatWasPutLast holds a store against a plain disk, while zones are emptied as soon as nothing is in them.
func TestGetTellsWhatWasPutLast(t *testing.T) {
	s := made(t, shape(12, 8, 64, 2))
	disk := map[uint64][]byte{}
	cleared := 0
	picks := script{numbers(7, 40000)}
	for step := 0; len(picks.left) > 8; step++ {
		block := uint64(picks.below(7))
		if picks.below(4) == 0 {
			delete(disk, block)
			wantPut(t, s, api.OK, drop(block))
		} else {
			p := data(block, string(binary.BigEndian.AppendUint32(nil, uint32(step))))
			disk[block] = p.Data
			wantPut(t, s, api.OK, p)
		}
		for z := range 12 {
			if s.Clear(z) {
				cleared++
			}
		}
		for block := range uint64(7) {
			if b, is := disk[block]; is {
				wantGet(t, s, 1, block, b)
			} else {
				wantNoGet(t, s, 1, block)
			}
		}
		// Blocks that nobody writes anew would hold their zones: they are carried on.
		if s.Low() {
			carry(t, s)
		}
	}
	if cleared < 100 {
		t.Fatalf("%d zones were emptied", cleared)
	}
}

// carry puts anew all that full zones hold.
func carry(t *testing.T, s *store.Store) {
	t.Helper()
	for _, z := range s.Seg().List(api.ZoneFull) {
		for _, p := range s.Map().In(z) {
			b, _ := s.Get(p.Tenant, p.Block)
			wantPut(t, s, api.OK, api.Put{Tenant: p.Tenant, Block: p.Block, Data: b})
		}
		wantClear(t, s, z, true)
	}
}

// TestTheLongestLists goes through a whole device of the greatest zones, with drops of a list of many.
func TestTheLongestLists(t *testing.T) {
	s := made(t, shape(6, 4096, 64, 2))
	l := slices.Repeat([]api.Put{drop(1)}, 2*4096*4)
	wantPut(t, s, api.OK, l...)
	wantSeq(t, s, 4*4096)
	wantStates(t, s, api.ZoneFull, api.ZoneFull, api.ZoneFull, api.ZoneFull)
	wantPut(t, s, api.ErrStoreFull, drop(1))
}
