package roll_test

import (
	"bytes"
	"math"
	"slices"
	"testing"

	"coaming/api"
	"coaming/ckpt"
	"coaming/crc"
	"coaming/rec"
	"coaming/roll"
	"coaming/store"
	"coaming/zone"
)

func shape(zones, blocks, block, reserve int) api.Shape {
	return api.Shape{Zones: zones, ZoneBlocks: blocks, Block: block, Reserve: reserve}
}

// small is the smallest shape that may be: a record has room for two items, a block of a checkpoint for two places.
func small() api.Shape { return shape(6, 8, 64, 2) }

// farZones are numbers of zones that no shape has, some of them with the low bits of one that there is.
func farZones() []int {
	return []int{math.MinInt, math.MinInt + 2, -1 << 32, -254, -2, -1, 256, 257, 258, 1<<16 + 2, 1<<32 + 2, math.MaxInt}
}

// filled is a block of so many bytes that begins with this text.
func filled(size int, text string) []byte {
	out := make([]byte, size)
	copy(out, text)
	return out
}

// data is a block of tenant 1 in a small store that begins with this text; drop drops one.
func data(block uint64, text string) api.Put {
	return api.Put{Tenant: 1, Block: block, Data: filled(64, text)}
}

func drop(block uint64) api.Put { return api.Put{Tenant: 1, Block: block, Drop: true} }

// sized are the same puts, with blocks of so many bytes.
func sized(size int, l ...api.Put) []api.Put {
	var out []api.Put
	for _, p := range l {
		if !p.Drop {
			p.Data = filled(size, string(p.Data))
		}
		out = append(out, p)
	}
	return out
}

func place(tenant uint32, block uint64, z, b int) api.Place {
	return api.Place{Tenant: tenant, Block: block, At: api.Addr{Zone: z, Block: b}}
}

// record is the one that says this of these.
func record(seq uint64, l ...api.Put) api.Record {
	r := api.Record{Seq: seq}
	for _, p := range l {
		x := api.Item{Tenant: p.Tenant, Block: p.Block, Kind: api.ItemDrop}
		if !p.Drop {
			x.Kind, x.Sum, x.End = api.ItemData, crc.Sum(p.Data), uint16(rec.Ends(p.Data))
		}
		r.Items = append(r.Items, x)
	}
	return r
}

// head is a record's block on a device.
func head(t testing.TB, d *zone.Dev, r api.Record) []byte {
	t.Helper()
	b, errno := rec.Encode(r, d.Shape().Block)
	if errno != api.OK {
		t.Fatalf("Encode(%v): %v", r, errno)
	}
	return b
}

// add appends blocks to a zone.
func add(t *testing.T, d *zone.Dev, z int, l ...[]byte) {
	t.Helper()
	for _, b := range l {
		if _, errno := d.Append(z, b); errno != api.OK {
			t.Fatalf("Append to %d: %v", z, errno)
		}
	}
}

// write appends a record and its data to a zone.
func write(t *testing.T, d *zone.Dev, z int, seq uint64, l ...api.Put) {
	t.Helper()
	add(t, d, z, head(t, d, record(seq, l...)))
	for _, p := range l {
		if !p.Drop {
			add(t, d, z, p.Data)
		}
	}
}

func save(t *testing.T, d *zone.Dev, slot int, seq uint64, l ...api.Place) {
	t.Helper()
	if errno := ckpt.Save(d, slot, api.State{Seq: seq, Places: l}); errno != api.OK {
		t.Fatalf("Save: %v", errno)
	}
}

// marked is a small device with a checkpoint in slot 0.
func marked(t *testing.T, seq uint64, l ...api.Place) *zone.Dev {
	t.Helper()
	d := zone.New(small())
	save(t, d, 0, seq, l...)
	return d
}

func sameRecord(a, b api.Record) bool { return a.Seq == b.Seq && slices.Equal(a.Items, b.Items) }

func wantScan(t *testing.T, d *zone.Dev, z int, want []api.Record, blocks ...int) {
	t.Helper()
	got, at := roll.Scan(d, z)
	if !slices.EqualFunc(got, want, sameRecord) || !slices.Equal(at, blocks) {
		t.Fatalf("Scan(%d): %v at %v, want %v at %v", z, got, at, want, blocks)
	}
}

func sameZone(a, b api.Zone) bool {
	return a.Durable == b.Durable && slices.EqualFunc(a.Blocks, b.Blocks, bytes.Equal)
}

func wantZones(t *testing.T, what string, d *zone.Dev, want []api.Zone) {
	t.Helper()
	got := d.Zones()
	for z := range want {
		if !sameZone(got[z], want[z]) {
			t.Fatalf("%s: zone %d has %d blocks, %d durable, want %d, %d; or they differ", what, z, len(got[z].Blocks), got[z].Durable, len(want[z].Blocks), want[z].Durable)
		}
	}
}

// wantError asks for an error, and that the device is as it was.
func wantError(t *testing.T, d *zone.Dev, want api.Errno) {
	t.Helper()
	before := d.Zones()
	if s, errno := roll.Recover(d); s != nil || errno != want {
		t.Fatalf("Recover: %v, %v, want nil, %v", s, errno, want)
	}
	wantZones(t, "behind an error", d, before)
}

// wantStore recovers a device, and asks for the store's number and its places.
func wantStore(t *testing.T, d *zone.Dev, seq uint64, l ...api.Place) *store.Store {
	t.Helper()
	s, errno := roll.Recover(d)
	if errno != api.OK || s == nil {
		t.Fatalf("Recover: %v, %v", s, errno)
	}
	if s.Seq() != seq || !slices.Equal(s.Map().All(), l) {
		t.Fatalf("Recover: Seq %d, places %v, want %d, %v", s.Seq(), s.Map().All(), seq, l)
	}
	return s
}

func wantGet(t *testing.T, s *store.Store, p api.Put) {
	t.Helper()
	if got, is := s.Get(p.Tenant, p.Block); is == p.Drop || !bytes.Equal(got, p.Data) {
		t.Fatalf("Get(%d, %d): %q, %v, want %q", p.Tenant, p.Block, got, is, p.Data)
	}
}

// wantStates asks for the states of the zones from 2 on.
func wantStates(t *testing.T, s *store.Store, want ...uint8) {
	t.Helper()
	for i, state := range append([]uint8{api.ZoneKept, api.ZoneKept}, want...) {
		if got := s.Seg().State(i); got != state {
			t.Fatalf("zone %d has the state %d, want %d", i, got, state)
		}
	}
}

// wantSlot asks for the newest checkpoint.
func wantSlot(t *testing.T, d *zone.Dev, slot int, seq uint64, l ...api.Place) {
	t.Helper()
	st, at, errno := ckpt.Load(d)
	if errno != api.OK || at != slot || st.Seq != seq || !slices.Equal(st.Places, l) {
		t.Fatalf("Load: %v, %d, %v; want %v with %d, %d", st, at, errno, l, seq, slot)
	}
}

func put(t *testing.T, s *store.Store, l ...api.Put) {
	t.Helper()
	if got := s.Put(l); got != api.OK {
		t.Fatalf("Put of %d: %v", len(l), got)
	}
}

// numbers are some bytes, in an order that is always the same.
func numbers(seed uint64, count int) []byte {
	out := make([]byte, count)
	for i := range out {
		seed = seed*6364136223846793005 + 1442695040888963407
		out[i] = byte(seed >> 56)
	}
	return out
}

// script is bytes by which steps are picked; noughts, behind its end.
type script struct{ left []byte }

func (s *script) next() int {
	if len(s.left) == 0 {
		return 0
	}
	b := s.left[0]
	s.left = s.left[1:]
	return int(b)
}

func (s *script) below(n int) int { return s.next() % n }
