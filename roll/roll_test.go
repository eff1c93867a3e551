package roll_test

import (
	"math"
	"testing"

	"coaming/api"
	"coaming/ckpt"
	"coaming/roll"
	"coaming/store"
	"coaming/zone"
)

func TestExample(t *testing.T) {
	s := store.New(small())
	put(t, s, data(1, "a"), data(2, "b"))
	s.Flush()
	put(t, s, data(3, "c"), data(4, "d"))
	s.Dev().Crash(nil)
	u := wantStore(t, s.Dev(), 1, place(1, 1, 2, 1), place(1, 2, 2, 2))
	wantGet(t, u, data(1, "a"))
	wantGet(t, u, data(2, "b"))
	wantGet(t, u, drop(3))
	wantGet(t, u, drop(4))
}

// TestRecoverOfAStoreThatWasNotUsed has nothing but the first checkpoint.
func TestRecoverOfAStoreThatWasNotUsed(t *testing.T) {
	for _, at := range []api.Shape{small(), shape(256, 8, 64, 252), shape(6, 4096, 64, 2), shape(7, 9, 4096, 3)} {
		d := store.New(at).Dev()
		s := wantStore(t, d, 0)
		if len(s.Seg().List(api.ZoneFree)) != at.Zones-2 || s.Dev() != d {
			t.Fatal("not all zones are free, or it is another device")
		}
		wantSlot(t, d, 0, 0) // of two alike that of zone 0
		if n, m := d.At(1); n != 1 || m != 1 {
			t.Fatalf("zone 1 has %d blocks, %d durable", n, m)
		}
	}
}

func TestRecoverWhereNoCheckpointIs(t *testing.T) {
	wantError(t, zone.New(small()), api.ErrCkptNone)
	// Records alone are no store.
	d := zone.New(small())
	write(t, d, 2, 1, data(1, "a"))
	wantError(t, d, api.ErrCkptNone)
	d.Flush()
	wantError(t, d, api.ErrCkptNone)
	// Checkpoints in other zones are none, nor is one that something stands behind.
	saved := marked(t, 0)
	b := saved.Zones()[0].Blocks[0]
	for z := 2; z < 6; z++ {
		d := zone.New(small())
		add(t, d, z, b)
		wantError(t, d, api.ErrCkptNone)
	}
	add(t, saved, 0, make([]byte, 64))
	wantError(t, saved, api.ErrCkptNone)
	d = zone.New(small())
	add(t, d, 0, b)
	d.Crash([]api.Loss{{Torn: 63}})
	wantError(t, d, api.ErrCkptNone)
}

// TestRecoverFromTheNewerCheckpoint has two, and what records say since each.
func TestRecoverFromTheNewerCheckpoint(t *testing.T) {
	for _, newer := range []int{0, 1} {
		d := zone.New(small())
		write(t, d, 2, 1, data(1, "a"))
		write(t, d, 2, 2, data(2, "b"))
		write(t, d, 2, 3, data(3, "c"))
		save(t, d, 1-newer, 1, place(1, 1, 2, 1))
		save(t, d, newer, 2, place(1, 7, 2, 3))
		wantStore(t, d, 3, place(1, 3, 2, 5), place(1, 7, 2, 3))
		wantSlot(t, d, 1-newer, 3, place(1, 3, 2, 5), place(1, 7, 2, 3))
	}
}

// TestRecoverWhileASlotWasWritten has every front of the newer checkpoint: till it is whole, the older one and the records behind it say the same.
func TestRecoverWhileASlotWasWritten(t *testing.T) {
	for keep := range 5 {
		for _, torn := range []int{0, 1, 30, 63, 64} {
			s := store.New(small())
			put(t, s, data(1, "a"), data(2, "b"), data(3, "c"), data(4, "d"), data(5, "e"))
			s.Flush()
			st := api.State{Seq: s.Seq(), Places: s.Map().All()}
			l, _ := ckpt.Encode(small(), st)
			if len(l) != 3 {
				t.Fatalf("%d blocks", len(l))
			}
			add(t, s.Dev(), 1, l...)
			s.Dev().Crash([]api.Loss{{}, {Keep: keep, Torn: torn}})
			u := wantStore(t, s.Dev(), st.Seq, st.Places...)
			for i, text := range []string{"a", "b", "c", "d", "e"} {
				wantGet(t, u, data(uint64(i+1), text))
			}
		}
	}
}

// TestRecoverOfPlacesWhoseBlocksAreNotThere has places of a checkpoint at, and behind, the end of their zones.
func TestRecoverOfPlacesWhoseBlocksAreNotThere(t *testing.T) {
	d := zone.New(small())
	for z, n := range []int{2: 0, 3: 1, 4: 7, 5: 8} {
		for range n {
			add(t, d, z, filled(64, "no record"))
		}
	}
	places := []api.Place{
		place(1, 0, 2, 0), place(1, 1, 2, 7),
		place(1, 2, 3, 0), place(1, 3, 3, 1),
		place(2, 0, 4, 6), place(2, 1, 4, 7),
		place(3, 0, 5, 0), place(3, 1, 5, 7),
	}
	save(t, d, 1, 9, places...)
	s := wantStore(t, d, 9, places[2], places[4], places[6], places[7])
	// The data may be anything.
	wantGet(t, s, data(2, "no record"))
	wantStates(t, s, api.ZoneFree, api.ZoneFull, api.ZoneFull, api.ZoneFull)
}

// TestRecoverOfTwoBlocksAtOnePlace has a checkpoint that says so: the one behind is there.
func TestRecoverOfTwoBlocksAtOnePlace(t *testing.T) {
	d := marked(t, 5, place(1, 1, 2, 0), place(1, 2, 3, 0), place(2, 0, 2, 0))
	add(t, d, 2, filled(64, "a"))
	wantStore(t, d, 5, place(2, 0, 2, 0))
}

// TestRecoverFollowsNumbers has records whose numbers rise across zones, in another order than the zones'.
func TestRecoverFollowsNumbers(t *testing.T) {
	d := marked(t, 10, place(1, 1, 5, 1), place(1, 2, 5, 0))
	write(t, d, 5, 9, data(9, "old"))
	write(t, d, 4, 11, data(1, "a"), data(3, "a"))
	write(t, d, 2, 12, data(1, "b"))
	write(t, d, 5, 13, data(4, "c"), drop(3))
	write(t, d, 3, 14, data(1, "d"))
	write(t, d, 4, 15, drop(4), data(5, "e"))
	s := wantStore(t, d, 15, place(1, 1, 3, 1), place(1, 2, 5, 0), place(1, 5, 4, 4))
	wantGet(t, s, data(1, "d"))
	wantGet(t, s, data(5, "e"))
	wantGet(t, s, drop(3))
	wantGet(t, s, drop(4))
}

// TestRecoverFollowsNumbersDownAZone has a zone whose records' numbers fall.
func TestRecoverFollowsNumbersDownAZone(t *testing.T) {
	d := marked(t, 0)
	write(t, d, 2, 3, data(1, "c"))
	write(t, d, 2, 2, data(1, "b"))
	write(t, d, 2, 1, data(1, "a"))
	wantGet(t, wantStore(t, d, 3, place(1, 1, 2, 1)), data(1, "c"))
}

// TestRecoverDoesItemsInOrder has records that say several things of one block.
func TestRecoverDoesItemsInOrder(t *testing.T) {
	at := shape(6, 16, 128, 2) // a record has room for five items
	for _, x := range []struct {
		l    []api.Put
		want []api.Place
	}{
		{[]api.Put{data(1, "a"), data(1, "b")}, []api.Place{place(1, 1, 2, 2), place(1, 2, 3, 0)}},
		{[]api.Put{data(1, "a"), drop(1)}, []api.Place{place(1, 2, 3, 0)}},
		{[]api.Put{drop(1), data(1, "a")}, []api.Place{place(1, 1, 2, 1), place(1, 2, 3, 0)}},
		{[]api.Put{drop(2), drop(3), data(1, "a"), drop(4), data(5, "b")}, []api.Place{place(1, 1, 2, 1), place(1, 5, 2, 2)}},
		{[]api.Put{data(1, "a"), drop(1), data(1, "b"), drop(2), data(1, "c")}, []api.Place{place(1, 1, 2, 3)}},
		{[]api.Put{drop(9)}, []api.Place{place(1, 2, 3, 0)}},
		{[]api.Put{{Tenant: 2, Block: 2, Drop: true}, {Tenant: 1, Block: 2 + 1<<32, Drop: true}}, []api.Place{place(1, 2, 3, 0)}},
	} {
		d := zone.New(at)
		save(t, d, 0, 0, place(1, 2, 3, 0))
		add(t, d, 3, make([]byte, 128))
		write(t, d, 2, 1, sized(128, x.l...)...)
		wantStore(t, d, 1, x.want...)
	}
}

// TestRecoverOfAPlaceThatHasAnotherBlock has a checkpoint's block where a newer record has its data: the checkpoint's is nowhere.
func TestRecoverOfAPlaceThatHasAnotherBlock(t *testing.T) {
	d := marked(t, 4, place(1, 1, 2, 1), place(1, 2, 2, 0))
	write(t, d, 2, 5, data(3, "c"))
	wantStore(t, d, 5, place(1, 2, 2, 0), place(1, 3, 2, 1))
}

// TestRecoverOfRecordsThatAreNoNewer has numbers at and below the checkpoint's.
func TestRecoverOfRecordsThatAreNoNewer(t *testing.T) {
	d := marked(t, 5, place(1, 1, 2, 1))
	write(t, d, 2, 4, data(1, "a"))
	write(t, d, 2, 5, drop(1))
	write(t, d, 3, 5, data(2, "b"))
	write(t, d, 3, 0, data(2, "c"))
	wantStore(t, d, 5, place(1, 1, 2, 1))
	d = marked(t, 5, place(1, 1, 2, 1))
	write(t, d, 2, 5, data(1, "a"))
	write(t, d, 2, 5, drop(1))
	write(t, d, 2, 6, data(2, "b"))
	wantStore(t, d, 6, place(1, 1, 2, 1), place(1, 2, 2, 4))
}

// TestRecoverEndsWhereANumberIsMissing has a gap, at the first number and behind it: what stands behind it is not followed, but its numbers are used.
func TestRecoverEndsWhereANumberIsMissing(t *testing.T) {
	d := marked(t, 5)
	write(t, d, 2, 7, data(1, "a"))
	s := wantStore(t, d, 7)
	wantSlot(t, d, 1, 7)
	wantStates(t, s, api.ZoneFull, api.ZoneFree, api.ZoneFree, api.ZoneFree)
	// Recovered once more it is passed over, though the next one goes on by one.
	put(t, s, data(2, "b"))
	wantStore(t, d, 8, place(1, 2, 3, 1))

	d = marked(t, 5)
	write(t, d, 3, 6, data(1, "a"))
	write(t, d, 2, 8, data(1, "b"), data(2, "b"))
	write(t, d, 4, 9, data(3, "c"))
	write(t, d, 3, 100, drop(1))
	s = wantStore(t, d, 100, place(1, 1, 3, 1))
	wantGet(t, s, data(1, "a"))
	for z, last := range []uint64{0, 0, 100, 100, 100, 0} {
		if s.Last(z) != last {
			t.Fatalf("Last(%d): %d, want %d", z, s.Last(z), last)
		}
	}
}

// TestRecoverOfARecordThatIsNotWhole has all records that Scan does not tell: they are not followed, and their numbers are not used.
func TestRecoverOfARecordThatIsNotWhole(t *testing.T) {
	d := marked(t, 0)
	write(t, d, 2, 1, data(1, "a"))
	add(t, d, 2, head(t, d, record(2, data(1, "b"))))
	wantStore(t, d, 1, place(1, 1, 2, 1))

	d = marked(t, 0)
	write(t, d, 2, 1, data(1, "a"))
	add(t, d, 2, make([]byte, 64))
	write(t, d, 2, 2, drop(1))
	wantStates(t, wantStore(t, d, 1, place(1, 1, 2, 1)), api.ZoneFull, api.ZoneFree, api.ZoneFree, api.ZoneFree)
}

// TestRecoverOfRecordsOfOneNumber has several of one number: the one of the lowest zone, and there the lowest block, is followed alone.
func TestRecoverOfRecordsOfOneNumber(t *testing.T) {
	d := marked(t, 5)
	write(t, d, 4, 6, data(1, "4"))
	write(t, d, 3, 6, data(1, "3"), data(2, "3"))
	write(t, d, 3, 6, data(1, "3"), data(3, "3"))
	write(t, d, 5, 6, drop(1))
	wantStore(t, d, 6, place(1, 1, 3, 1), place(1, 2, 3, 2))

	// Behind them all goes on, and so it does behind others.
	d = marked(t, 5)
	write(t, d, 5, 6, data(1, "a"))
	write(t, d, 5, 7, data(2, "b"))
	write(t, d, 4, 7, data(3, "c"))
	write(t, d, 3, 8, data(4, "d"))
	write(t, d, 2, 6, data(5, "e"))
	write(t, d, 5, 8, drop(4))
	wantStore(t, d, 8, place(1, 3, 4, 1), place(1, 4, 3, 1), place(1, 5, 2, 1))

	// Behind a gap they are not followed, though one is the other's.
	d = marked(t, 5)
	write(t, d, 2, 6, data(1, "a"))
	write(t, d, 2, 8, data(2, "b"))
	write(t, d, 3, 8, data(3, "c"))
	write(t, d, 3, 9, data(4, "d"))
	wantStore(t, d, 9, place(1, 1, 2, 1))

	// One behind the other in a zone, as the last ones.
	d = marked(t, 5)
	write(t, d, 2, 6, data(1, "a"))
	write(t, d, 2, 6, data(2, "b"))
	write(t, d, 2, 6, data(3, "c"))
	wantStore(t, d, 6, place(1, 1, 2, 1))
}

// TestRecoverOfTheGreatestNumbers has numbers up to the last one: none goes on behind it.
func TestRecoverOfTheGreatestNumbers(t *testing.T) {
	d := marked(t, math.MaxUint64-2)
	write(t, d, 2, 0, data(9, "z"))
	write(t, d, 2, math.MaxUint64, data(2, "b"))
	write(t, d, 3, math.MaxUint64-1, data(1, "a"))
	s := wantStore(t, d, math.MaxUint64, place(1, 1, 3, 1), place(1, 2, 2, 3))
	put(t, s, data(3, "c"))
	if s.Seq() != 0 {
		t.Fatalf("Seq: %d", s.Seq())
	}
	// The checkpoint has the greatest number there is: no record is newer.
	wantStore(t, d, math.MaxUint64, place(1, 1, 3, 1), place(1, 2, 2, 3))

	d = marked(t, math.MaxUint64)
	write(t, d, 2, 0, data(1, "a"))
	write(t, d, 2, 1, data(2, "b"))
	write(t, d, 2, math.MaxUint64, data(3, "c"))
	wantStore(t, d, math.MaxUint64)

	// Numbers are held against each other without a sign.
	d = marked(t, 1<<63-1)
	write(t, d, 2, 1<<63, data(1, "a"))
	write(t, d, 3, 1<<63-1, drop(1))
	write(t, d, 3, 1<<63+1, data(2, "b"))
	wantStore(t, d, 1<<63+1, place(1, 1, 2, 1), place(1, 2, 3, 2))
}

// TestRecoverPassesOverSlots has records in a zone for checkpoints: they are none of the log's.
func TestRecoverPassesOverSlots(t *testing.T) {
	for _, slot := range []int{0, 1} {
		d := zone.New(small())
		save(t, d, slot, 0)
		write(t, d, 1-slot, 1, data(1, "a"))
		write(t, d, 1-slot, 9, data(2, "b"))
		write(t, d, 2, 1, data(3, "c"))
		wantStore(t, d, 1, place(1, 3, 2, 1))
		wantSlot(t, d, 1-slot, 1, place(1, 3, 2, 1))
	}
}

// TestRecoverOfZonesThatHaveABlock has zones that are full whatever is in them, and whether anything is.
func TestRecoverOfZonesThatHaveABlock(t *testing.T) {
	at := shape(9, 8, 64, 2)
	d := zone.New(at)
	save(t, d, 1, 3)
	add(t, d, 2, make([]byte, 64))
	write(t, d, 4, 4, data(1, "a"))
	write(t, d, 5, 2, drop(1))
	for range 8 {
		add(t, d, 7, filled(64, "junk"))
	}
	s := wantStore(t, d, 4, place(1, 1, 4, 1))
	const free, full = api.ZoneFree, api.ZoneFull
	wantStates(t, s, full, free, full, full, free, full, free)
	for z, last := range []uint64{0, 0, 4, 0, 4, 4, 0, 4, 0} {
		if s.Last(z) != last {
			t.Fatalf("Last(%d): %d, want %d", z, s.Last(z), last)
		}
	}
	// The next record opens a zone that is free.
	put(t, s, data(2, "b"))
	wantScan(t, d, 3, []api.Record{record(5, data(2, "b"))}, 0)
	wantStates(t, s, full, api.ZoneOpen, full, full, free, full, free)
}

// TestRecoverMarks has the checkpoint that Recover leaves: all is durable then, and by turns in the slots.
func TestRecoverMarks(t *testing.T) {
	for _, slot := range []int{0, 1} {
		d := zone.New(small())
		save(t, d, slot, 0)
		write(t, d, 3, 1, data(1, "a"))
		want := []api.Place{place(1, 1, 3, 1)}
		before := d.Zones()
		s := wantStore(t, d, 1, want...)
		wantSlot(t, d, 1-slot, 1, want...)
		l, _ := ckpt.Encode(small(), api.State{Seq: 1, Places: want})
		before[1-slot] = api.Zone{Blocks: l}
		for z := range before {
			before[z].Durable = len(before[z].Blocks)
		}
		wantZones(t, "behind Recover", d, before)
		// The store's next checkpoint is in the slot that Load told.
		put(t, s, drop(1))
		if s.Mark() != api.OK {
			t.Fatal("Mark")
		}
		wantSlot(t, d, slot, 2)
		d.Crash(nil)
		wantStore(t, d, 2)
	}
}

// TestRecoverOfMoreThanASlotHolds has as many blocks as a checkpoint has room for, and one more: there is no store, and the device is as it was.
func TestRecoverOfMoreThanASlotHolds(t *testing.T) {
	d := zone.New(shape(7, 8, 64, 2))
	save(t, d, 0, 0)
	var want []api.Place
	for i := range uint64(16) {
		z, n := 2+int(i)/4, 2*(int(i)%4)
		write(t, d, z, i+1, data(i, "a"))
		want = append(want, place(1, i, z, n+1))
	}
	twin := zone.Open(d.Shape(), d.Zones())
	wantStore(t, twin, 16, want...)
	write(t, d, 6, 17, data(16, "a"))
	wantError(t, d, api.ErrCkptLong)
	wantError(t, d, api.ErrCkptLong)
	// With one fewer it goes again.
	write(t, d, 6, 18, drop(3))
	want = append(want, place(1, 16, 6, 1))
	wantStore(t, d, 18, append(want[:3:3], want[4:]...)...)
}

// TestRecoverTwice tells the same each time, whatever the crash between.
func TestRecoverTwice(t *testing.T) {
	d := marked(t, 3, place(1, 1, 2, 1), place(1, 2, 5, 3))
	write(t, d, 2, 3, data(1, "a"))
	write(t, d, 4, 4, data(3, "b"), drop(4))
	write(t, d, 4, 6, data(5, "c"))
	want := []api.Place{place(1, 1, 2, 1), place(1, 3, 4, 1)}
	for range 5 {
		s := wantStore(t, d, 6, want...)
		wantStates(t, s, api.ZoneFull, api.ZoneFree, api.ZoneFull, api.ZoneFree)
		wantGet(t, s, data(3, "b"))
		d.Crash(nil)
	}
	s := wantStore(t, d, 6, want...)
	u := wantStore(t, d, 6, want...)
	// Both are on the device itself, and have what they say of it each by itself.
	put(t, s, data(9, "s"))
	if u.Seq() != 6 || u.Dev() != d || s.Dev() != d || u.Map() == s.Map() {
		t.Fatal("two stores on one device")
	}
	wantGet(t, u, drop(9))
}

// TestRecoverOfOneOfTwoDevices leaves the other one alone.
func TestRecoverOfOneOfTwoDevices(t *testing.T) {
	s := store.New(small())
	put(t, s, data(1, "a"))
	other := zone.Open(small(), s.Dev().Zones())
	before := other.Zones()
	wantStore(t, s.Dev(), 1, place(1, 1, 2, 1))
	wantZones(t, "the other device", other, before)
	wantStore(t, other, 1, place(1, 1, 2, 1))
}

// TestGreatDevices has the greatest shapes: each call ends soon.
func TestGreatDevices(t *testing.T) {
	at := shape(256, 512, 64, 250)
	d := zone.New(at)
	save(t, d, 1, 0)
	seq := uint64(0)
	for z := 255; z >= 2; z-- {
		for range 256 {
			seq++
			write(t, d, z, seq, data(seq%500, "a"))
		}
	}
	s, errno := roll.Recover(d)
	if errno != api.OK || s.Seq() != seq || s.Map().Count(1) != 500 {
		t.Fatalf("Recover: %v; of %d records", errno, seq)
	}
	if a, is := s.Map().Get(1, seq%500); !is || a != (api.Addr{Zone: 2, Block: 511}) {
		t.Fatalf("the last block is at %v, %v", a, is)
	}
}
