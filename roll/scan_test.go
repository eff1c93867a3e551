package roll_test

import (
	"bytes"
	"math"
	"testing"

	"coaming/api"
	"coaming/crc"
	"coaming/rec"
	"coaming/roll"
	"coaming/store"
	"coaming/zone"
)

func TestScanOfNothing(t *testing.T) {
	d := zone.New(small())
	for z := range 6 {
		wantScan(t, d, z, nil)
	}
	for _, z := range append(farZones(), 6, 7) {
		wantScan(t, d, z, nil)
	}
}

// TestScanOfZonesThatAreNotThere has records in all zones that there are.
func TestScanOfZonesThatAreNotThere(t *testing.T) {
	d := zone.New(small())
	for z := range 6 {
		write(t, d, z, 1, data(1, "a"))
	}
	for _, z := range append(farZones(), 6, 7) {
		wantScan(t, d, z, nil)
	}
}

// TestScanOfAnyZone has records in all zones, also in those for checkpoints.
func TestScanOfAnyZone(t *testing.T) {
	d := zone.New(small())
	for z := range 6 {
		write(t, d, z, uint64(z), data(uint64(z), "a"))
	}
	for z := range 6 {
		wantScan(t, d, z, []api.Record{record(uint64(z), data(uint64(z), "a"))}, 0)
	}
	d = marked(t, 3, place(1, 1, 2, 0))
	wantScan(t, d, 0, nil)
}

// TestScanOfAStore has what a store has written: records that were cut, data and drops, a zone that is full.
func TestScanOfAStore(t *testing.T) {
	s := store.New(small())
	put(t, s, data(1, "a"), data(2, "b"), data(3, "c"), drop(1))
	put(t, s, drop(9), drop(8), data(4, ""))
	put(t, s, data(5, "\x00\x00e"))
	put(t, s, drop(3))
	wantScan(t, s.Dev(), 2, []api.Record{
		record(1, data(1, "a"), data(2, "b")),
		record(2, data(3, "c"), drop(1)),
		record(3, drop(9), drop(8)),
		record(4, data(4, "")),
	}, 0, 3, 5, 6)
	wantScan(t, s.Dev(), 3, []api.Record{record(5, data(5, "\x00\x00e")), record(6, drop(3))}, 0, 2)
	wantScan(t, s.Dev(), 0, nil)
	wantScan(t, s.Dev(), 4, nil)
}

// TestScanAsksForNoNumbers has records by any numbers, in any order.
func TestScanAsksForNoNumbers(t *testing.T) {
	d := zone.New(shape(6, 16, 64, 2))
	var want []api.Record
	var at []int
	for i, seq := range []uint64{7, 3, 3, 0, math.MaxUint64, 0, 1 << 63} {
		p := []api.Put{{Tenant: uint32(i), Block: 1, Drop: true}}
		write(t, d, 5, seq, p...)
		want, at = append(want, record(seq, p...)), append(at, i)
	}
	wantScan(t, d, 5, want, at...)
}

// TestScanOfGreatRecords has the most items that there may be, and the greatest numbers.
func TestScanOfGreatRecords(t *testing.T) {
	d := zone.New(shape(6, 300, 4096, 2))
	var l []api.Put
	for i := range uint64(214) {
		p := api.Put{Tenant: math.MaxUint32, Block: math.MaxUint64 - i, Drop: i%3 == 1}
		if !p.Drop {
			p.Data = bytes.Repeat([]byte{byte(i)}, 4096)
		}
		l = append(l, p)
	}
	write(t, d, 4, math.MaxUint64, l...)
	write(t, d, 4, 0, l[:1]...)
	wantScan(t, d, 4, []api.Record{record(math.MaxUint64, l...), record(0, l[0])}, 0, 144)
}

// TestScanEndsAtABlockThatIsNoRecord has whole records behind one: they are not told.
func TestScanEndsAtABlockThatIsNoRecord(t *testing.T) {
	good := head(t, zone.New(small()), record(2, drop(1)))
	for i := range 64 {
		d := zone.New(small())
		write(t, d, 2, 1, data(1, "a"))
		b := bytes.Clone(good)
		b[i] ^= 1
		add(t, d, 2, b)
		write(t, d, 2, 3, drop(2))
		wantScan(t, d, 2, []api.Record{record(1, data(1, "a"))}, 0)
	}
	d := zone.New(small())
	add(t, d, 2, make([]byte, 64))
	write(t, d, 2, 1, drop(1))
	wantScan(t, d, 2, nil)
}

// TestScanEndsAtWrongData has one bit of one block of data that is not what its item says.
func TestScanEndsAtWrongData(t *testing.T) {
	l := sized(128, data(1, "abc"), drop(2), data(3, "def"), data(4, "ghi"))
	for wrong := range 3 {
		for i := range 128 {
			d := zone.New(shape(6, 8, 128, 2))
			write(t, d, 2, 1, drop(7))
			blocks := [][]byte{l[0].Data, l[2].Data, l[3].Data}
			blocks[wrong] = bytes.Clone(blocks[wrong])
			blocks[wrong][i] ^= 0x80
			add(t, d, 2, head(t, d, record(2, l...)))
			add(t, d, 2, blocks...)
			write(t, d, 2, 3, drop(8))
			wantScan(t, d, 2, []api.Record{record(1, drop(7))}, 0)
		}
	}
}

// TestScanOfDataInAnotherOrder has all data of a record, but not one behind the other as its items are.
func TestScanOfDataInAnotherOrder(t *testing.T) {
	d := zone.New(small())
	a, b := data(1, "a"), data(2, "b")
	write(t, d, 2, 1, a, b)
	add(t, d, 3, head(t, d, record(1, a, b)), b.Data, a.Data)
	add(t, d, 4, head(t, d, record(1, a, b)), make([]byte, 64), a.Data, b.Data)
	add(t, d, 5, head(t, d, record(1, a, b)), a.Data, make([]byte, 64), b.Data)
	wantScan(t, d, 2, []api.Record{record(1, a, b)}, 0)
	for z := 3; z < 6; z++ {
		wantScan(t, d, z, nil)
	}
}

// TestScanOfDataWithTheSumAlone has data whose sum is what the item says, and whose end is not.
func TestScanOfDataWithTheSumAlone(t *testing.T) {
	p := data(1, "abc")
	for _, end := range []uint16{0, 2, 4, 64, 4096} {
		d := zone.New(small())
		r := record(1, p)
		r.Items[0].End = end
		add(t, d, 2, head(t, d, r), p.Data)
		wantScan(t, d, 2, nil)
	}
}

// TestScanOfDataThatAreNotThere has every front of a record's blocks.
func TestScanOfDataThatAreNotThere(t *testing.T) {
	l := sized(128, data(1, "a"), drop(2), data(3, "c"), data(4, "d"), drop(5))
	for blocks := range 4 {
		d := zone.New(shape(6, 8, 128, 2))
		write(t, d, 2, 1, drop(9))
		whole := zone.New(d.Shape())
		write(t, whole, 2, 2, l...)
		add(t, d, 2, whole.Zones()[2].Blocks[:blocks]...)
		wantScan(t, d, 2, []api.Record{record(1, drop(9))}, 0)
		add(t, d, 2, whole.Zones()[2].Blocks[blocks:]...)
		wantScan(t, d, 2, []api.Record{record(1, drop(9)), record(2, l...)}, 0, 1)
	}
}

// TestScanOfEmptyDataThatAreNotThere has an item whose data are empty: that no block is there is not such data.
func TestScanOfEmptyDataThatAreNotThere(t *testing.T) {
	none := api.Item{Tenant: 1, Block: 1, Kind: api.ItemData, Sum: crc.Sum()}
	if !rec.Check(none, nil) {
		t.Fatal("no data are not what the item says")
	}
	d := zone.New(small())
	add(t, d, 2, head(t, d, api.Record{Seq: 1, Items: []api.Item{none}}))
	wantScan(t, d, 2, nil)
	write(t, d, 3, 1, drop(1))
	add(t, d, 3, head(t, d, api.Record{Seq: 2, Items: []api.Item{record(2, drop(2)).Items[0], none}}))
	wantScan(t, d, 3, []api.Record{record(1, drop(1))}, 0)
}

// TestScanOfTornBlocks has every front of the last block of a record, as a crash leaves it.
func TestScanOfTornBlocks(t *testing.T) {
	p := data(2, "\x01\x00\x00\x04\x05")
	for _, keep := range []int{0, 1} {
		for torn := range 65 {
			d := zone.New(small())
			write(t, d, 2, 1, data(1, "a"))
			d.Flush()
			write(t, d, 2, 2, p)
			d.Crash([]api.Loss{{}, {}, {Keep: keep, Torn: torn}})
			// Of the data no more than 5 bytes are to be there: the others are noughts anyhow.
			if keep == 1 && torn >= 5 {
				wantScan(t, d, 2, []api.Record{record(1, data(1, "a")), record(2, p)}, 0, 2)
			} else {
				wantScan(t, d, 2, []api.Record{record(1, data(1, "a"))}, 0)
			}
		}
	}
}

// TestScanPassesOverData has data that would be records themselves.
func TestScanPassesOverData(t *testing.T) {
	d := zone.New(small())
	inner := api.Put{Tenant: 1, Block: 5, Data: head(t, d, record(9, drop(4)))}
	write(t, d, 2, 1, inner, inner)
	write(t, d, 2, 2, drop(1))
	wantScan(t, d, 2, []api.Record{record(1, inner, inner), record(2, drop(1))}, 0, 3)
}

// TestScanToTheEndOfAZone has full zones: with a record as the last block, with data there, and with a record there whose data are not.
func TestScanToTheEndOfAZone(t *testing.T) {
	d := zone.New(small())
	var drops []api.Record
	for i := range uint64(8) {
		write(t, d, 2, i, drop(i))
		drops = append(drops, record(i, drop(i)))
	}
	wantScan(t, d, 2, drops, 0, 1, 2, 3, 4, 5, 6, 7)
	for i := range uint64(6) {
		write(t, d, 3, i, drop(i))
	}
	write(t, d, 3, 6, data(6, "a"))
	wantScan(t, d, 3, append(drops[:6:6], record(6, data(6, "a"))), 0, 1, 2, 3, 4, 5, 6)
	for i := range uint64(7) {
		write(t, d, 4, i, drop(i))
	}
	add(t, d, 4, head(t, d, record(7, data(7, ""))))
	// What the next zone begins with is not behind it.
	add(t, d, 5, make([]byte, 64))
	wantScan(t, d, 4, drops[:7], 0, 1, 2, 3, 4, 5, 6)
}

// TestScanAsksForNoDurability has blocks that are not durable: they are told like others.
func TestScanAsksForNoDurability(t *testing.T) {
	d := zone.New(small())
	write(t, d, 2, 1, data(1, "a"))
	d.Flush()
	write(t, d, 2, 2, data(2, "b"))
	want := []api.Record{record(1, data(1, "a")), record(2, data(2, "b"))}
	wantScan(t, d, 2, want, 0, 2)
	before := d.Zones()
	wantScan(t, d, 2, want, 0, 2)
	wantZones(t, "behind Scan", d, before)
}

// TestScanTellsNewMemory changes what was told: it is told again as it was, and the device is as it was.
func TestScanTellsNewMemory(t *testing.T) {
	d := zone.New(small())
	write(t, d, 2, 1, data(1, "a"), drop(2))
	write(t, d, 2, 2, data(2, "b"))
	before := d.Zones()
	want := []api.Record{record(1, data(1, "a"), drop(2)), record(2, data(2, "b"))}
	first, at := roll.Scan(d, 2)
	second, _ := roll.Scan(d, 2)
	for i := range first {
		for j := range first[i].Items {
			first[i].Items[j] = api.Item{Tenant: 77}
		}
		_ = append(first[i].Items, api.Item{Tenant: 78})
		first[i], at[i] = api.Record{}, -1
	}
	for i := range want {
		if !sameRecord(second[i], want[i]) {
			t.Fatalf("what was told ahead is %v now", second[i])
		}
	}
	wantScan(t, d, 2, want, 0, 2)
	wantZones(t, "behind changes", d, before)
}
