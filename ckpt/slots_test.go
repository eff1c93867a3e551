package ckpt_test

import (
	"bytes"
	"math"
	"slices"
	"testing"

	"coaming/api"
	"coaming/ckpt"
	"coaming/zone"
)

func sameZone(a, b api.Zone) bool { return a.Durable == b.Durable && sameBlocks(a.Blocks, b.Blocks) }

func wantZones(t *testing.T, what string, d *zone.Dev, want []api.Zone) {
	t.Helper()
	if !slices.EqualFunc(d.Zones(), want, sameZone) {
		t.Fatalf("%s: the device holds something else", what)
	}
}

// opened is a device that holds these zones, from zone 0 on; the others are empty.
func opened(t *testing.T, s api.Shape, l ...api.Zone) *zone.Dev {
	t.Helper()
	d := zone.Open(s, append(l, make([]api.Zone, s.Zones-len(l))...))
	if d == nil {
		t.Fatal("Open: nil")
	}
	return d
}

// holding is a zone with these blocks, so many of them durable.
func holding(l [][]byte, durable int) api.Zone { return api.Zone{Blocks: l, Durable: durable} }

// littered is a device each of whose zones has as many blocks as the turn says, of any bytes, half of them durable.
func littered(t *testing.T, n *numbers, s api.Shape, turn int) *zone.Dev {
	t.Helper()
	l := make([]api.Zone, s.Zones)
	for i := range l {
		for range (i*3 + turn) % (s.ZoneBlocks + 1) {
			l[i].Blocks = append(l[i].Blocks, n.bytes(s.Block))
		}
		l[i].Durable = len(l[i].Blocks) / 2
	}
	return opened(t, s, l...)
}

// saved are a device's zones when blocks were saved to a slot of it: all that it has is durable.
func saved(l []api.Zone, slot int, blocks [][]byte) []api.Zone {
	out := slices.Clone(l)
	out[slot].Blocks = blocks
	for i := range out {
		out[i].Durable = len(out[i].Blocks)
	}
	return out
}

func wantSave(t *testing.T, d *zone.Dev, slot int, st api.State) {
	t.Helper()
	want := saved(d.Zones(), slot, laid(d.Shape().Block, st))
	if errno := ckpt.Save(d, slot, st); errno != api.OK {
		t.Fatalf("Save of %d places to %d: %d", len(st.Places), slot, errno)
	}
	wantZones(t, "Save", d, want)
}

func wantNoSave(t *testing.T, what string, d *zone.Dev, slot int, st api.State, want api.Errno) {
	t.Helper()
	before := d.Zones()
	if errno := ckpt.Save(d, slot, st); errno != want {
		t.Errorf("Save of %s to %d: %d, want error %d", what, slot, errno, want)
	}
	wantZones(t, what, d, before)
}

func wantLoad(t *testing.T, what string, d *zone.Dev, st api.State, slot int) {
	t.Helper()
	before := d.Zones()
	got, at, errno := ckpt.Load(d)
	if errno != api.OK || at != slot || !same(got, st) {
		t.Fatalf("%s: Load: %d with %d places of %d, %d, want %d with %d of %d", what, got.Seq, len(got.Places), at, errno, st.Seq, len(st.Places), slot)
	}
	wantZones(t, what, d, before)
}

func wantNoLoad(t *testing.T, what string, d *zone.Dev) {
	t.Helper()
	before := d.Zones()
	if st, at, errno := ckpt.Load(d); st.Seq != 0 || len(st.Places) != 0 || at != 0 || errno != api.ErrCkptNone {
		t.Errorf("%s: Load: %v, %d, %d, want error 142 alone", what, st, at, errno)
	}
	wantZones(t, what, d, before)
}

func TestExample(t *testing.T) {
	l, errno := ckpt.Encode(small(), api.State{Seq: 5})
	if errno != api.OK || len(l) != 1 {
		t.Errorf("Encode: %d blocks, %d", len(l), errno)
	}
	d := zone.New(small())
	if errno := ckpt.Save(d, 1, api.State{Seq: 6}); errno != api.OK {
		t.Errorf("Save: %d", errno)
	}
	if st, slot, errno := ckpt.Load(d); st.Seq != 6 || slot != 1 || errno != api.OK {
		t.Errorf("Load: %d, %d, %d", st.Seq, slot, errno)
	}
}

func TestSaveToOtherSlots(t *testing.T) {
	n := &numbers{31}
	right, long, wrong := n.state(small(), 3), n.state(small(), 17), n.state(small(), 3)
	wrong.Places[2].At.Zone = 1
	d := littered(t, n, small(), 4)
	for _, slot := range []int{math.MinInt, -256, -2, -1, 2, 3, 5, 6, 255, 256, 1 << 32, 1<<32 + 1, math.MaxInt} {
		wantNoSave(t, "a state", d, slot, right, api.ErrArg)
		wantNoSave(t, "nothing", d, slot, api.State{}, api.ErrArg)
		// The slot's error is the first that the document names.
		wantNoSave(t, "too many places", d, slot, long, api.ErrArg)
		wantNoSave(t, "a wrong place", d, slot, wrong, api.ErrArg)
	}
	wantSave(t, d, 0, right)
	wantSave(t, d, 1, right)
}

// What Encode refuses leaves the device as it was, a slot that holds one too, and nothing is flushed.
func TestSaveOfWrongStates(t *testing.T) {
	n := &numbers{32}
	wrong := n.state(small(), 17)
	wrong.Places[16].At.Block = 8
	for slot := range 2 {
		d := littered(t, n, small(), 2)
		old := n.state(small(), 5)
		wantSave(t, d, slot, old)
		d.Append(3, n.bytes(64))
		wantNoSave(t, "too many places", d, slot, n.state(small(), 17), api.ErrCkptLong)
		wantNoSave(t, "too many places, one wrong", d, slot, wrong, api.ErrCkptForm)
		wantNoSave(t, "a place in a slot", d, slot, api.State{Places: make([]api.Place, 1)}, api.ErrCkptForm)
		wantLoad(t, "behind refused ones", d, old, slot)
	}
}

// Which states may be is the device's shape to say.
func TestSaveByTheDevicesShape(t *testing.T) {
	n := &numbers{33}
	for _, block := range sizes() {
		for _, s := range []api.Shape{shape(6, 8, block, 2), shape(9, 11, block, 5), shape(40, 20, block, 9)} {
			most := s.ZoneBlocks * rooms()[block]
			for _, places := range []int{0, 1, rooms()[block], rooms()[block] + 1, most - 1, most} {
				d := littered(t, n, s, places)
				st := n.state(s, places)
				wantSave(t, d, places%2, st)
				wantLoad(t, "one slot", d, st, places%2)
			}
			d := littered(t, n, s, 1)
			wantNoSave(t, "too many places", d, 0, n.state(s, most+1), api.ErrCkptLong)
			for _, at := range []api.Addr{{Zone: 1}, {Zone: s.Zones}, {Zone: 2, Block: s.ZoneBlocks}, {Zone: 2, Block: -1}} {
				wantNoSave(t, "a wrong place", d, 1, api.State{Places: []api.Place{{At: at}}}, api.ErrCkptForm)
			}
		}
	}
}

// Whatever the device holds: the slot has the blocks alone, all other zones what they had, and all of it is durable.
func TestSaveOnAnything(t *testing.T) {
	n := &numbers{34}
	for turn := range 40 {
		d := littered(t, n, small(), turn)
		st := n.state(small(), turn%17)
		wantSave(t, d, turn%2, st)
		wantLoad(t, "any litter", d, st, turn%2)
		// A crash takes nothing any more.
		kept := d.Zones()
		d.Crash(nil)
		wantZones(t, "a crash", d, kept)
	}
}

func TestSaveOverAnother(t *testing.T) {
	n := &numbers{35}
	for slot := range 2 {
		d := zone.New(small())
		for _, places := range []int{16, 0, 5, 16, 16, 1} {
			st := n.state(small(), places)
			wantSave(t, d, slot, st)
			wantLoad(t, "the only slot", d, st, slot)
		}
		// One that is older than what it is written over is the only one still.
		wantSave(t, d, slot, api.State{Seq: 3})
		wantSave(t, d, slot, api.State{Seq: 2})
		wantLoad(t, "an older one", d, api.State{Seq: 2}, slot)
	}
}

func TestSaveKeepsNothingOfTheState(t *testing.T) {
	mem := (&numbers{36}).state(small(), 9).Places
	was := slices.Clone(mem)
	d := zone.New(small())
	if errno := ckpt.Save(d, 0, api.State{Seq: 1, Places: mem[:4]}); errno != api.OK || !slices.Equal(mem, was) {
		t.Errorf("Save: %d, or the state was changed", errno)
	}
	clear(mem)
	wantLoad(t, "a cleared state", d, api.State{Seq: 1, Places: was[:4]}, 0)
	a, _, _ := ckpt.Load(d)
	clear(a.Places[:cap(a.Places)])
	wantLoad(t, "a cleared answer", d, api.State{Seq: 1, Places: was[:4]}, 0)
}

func TestLoadOfNone(t *testing.T) {
	n := &numbers{37}
	for _, block := range sizes() {
		wantNoLoad(t, "an empty device", zone.New(shape(6, 8, block, 2)))
	}
	for turn := range 20 {
		wantNoLoad(t, "litter", littered(t, n, small(), turn))
	}
	// Zones other than the slots are not looked at.
	one := holding(laid(64, n.state(small(), 3)), 2)
	wantNoLoad(t, "zones of the log", opened(t, small(), api.Zone{}, api.Zone{}, one, one, one, one))
}

// The greater Seq, without a sign; of two alike zone 0's, whatever else they say.
func TestLoadOfTwo(t *testing.T) {
	n := &numbers{38}
	seqs := []uint64{0, 1, 2, 255, 256, 1<<32 - 1, 1 << 32, 1<<63 - 1, 1 << 63, math.MaxUint64}
	for _, a := range seqs {
		for _, b := range seqs {
			for _, places := range [][2]int{{0, 0}, {3, 0}, {0, 3}, {5, 5}} {
				first, second := n.state(small(), places[0]), n.state(small(), places[1])
				first.Seq, second.Seq = a, b
				want, slot := first, 0
				if b > a {
					want, slot = second, 1
				}
				d := zone.New(small())
				wantSave(t, d, 0, first)
				wantSave(t, d, 1, second)
				wantLoad(t, "0, then 1", d, want, slot)
				d = zone.New(small())
				wantSave(t, d, 1, second)
				wantSave(t, d, 0, first)
				wantLoad(t, "1, then 0", d, want, slot)
			}
		}
	}
}

// All blocks of a zone together: one wrong, one more, or one fewer, and the other slot counts; behind it none.
func TestLoadOfSpoiltSlots(t *testing.T) {
	n := &numbers{39}
	older, newer := n.state(small(), 5), n.state(small(), 5)
	older.Seq, newer.Seq = 4, 9
	good, l := laid(64, older), laid(64, newer)
	spoilt := [][][]byte{nil, l[:1], l[:2], l[1:], {l[1], l[0], l[2]}, append(slices.Clone(l), l[2]), append(slices.Clone(l), make([]byte, 64)),
		append([][]byte{make([]byte, 64)}, l...), append(slices.Clone(l), laid(64, api.State{Seq: 10})...), with(l, 1, good[1]), with(l, 2, torn(l[2], 63))}
	for i := range 3 * 64 {
		bad := copied(l)
		bad[i/64][i%64] ^= 1 << (i % 8)
		spoilt = append(spoilt, bad)
	}
	for _, bad := range spoilt {
		wantLoad(t, "0 is spoilt", opened(t, small(), holding(bad, len(bad)), holding(good, 3)), older, 1)
		wantLoad(t, "1 is spoilt", opened(t, small(), holding(good, 3), holding(bad, 0)), older, 0)
		wantNoLoad(t, "both are spoilt", opened(t, small(), holding(bad, 0), holding(bad, len(bad))))
	}
	wantLoad(t, "none is spoilt", opened(t, small(), holding(l, 3), holding(good, 3)), newer, 0)
	wantLoad(t, "none is spoilt", opened(t, small(), holding(good, 3), holding(l, 3)), newer, 1)
}

// Load asks what blocks say, not whether they are durable.
func TestLoadOfWhatIsNotDurable(t *testing.T) {
	st := (&numbers{40}).state(small(), 5)
	for durable := range 4 {
		wantLoad(t, "not durable", opened(t, small(), api.Zone{}, holding(laid(64, st), durable)), st, 1)
	}
}

// A checkpoint is one for the shape that it was written for alone.
func TestLoadByTheDevicesShape(t *testing.T) {
	st := api.State{Seq: 1, Places: []api.Place{{At: api.Addr{Zone: 7, Block: 9}}}}
	slot := holding(laid(64, st), 1)
	wantLoad(t, "its shape", opened(t, shape(8, 10, 64, 2), slot), st, 0)
	wantNoLoad(t, "fewer zones", opened(t, shape(7, 10, 64, 2), slot))
	wantNoLoad(t, "fewer blocks", opened(t, shape(8, 9, 64, 2), slot))
}

// begun is a device on which a checkpoint was being written to a slot: the zone was reset, and so many blocks were appended.
func begun(l []api.Zone, s api.Shape, slot int, blocks [][]byte) *zone.Dev {
	d := zone.Open(s, l)
	d.Reset(slot)
	for _, b := range blocks {
		d.Append(slot, b)
	}
	return d
}

// While one slot is written Load tells the other one, or the new one: behind each step, and behind a crash there, whatever it keeps.
func TestCrashesWhileASlotIsWritten(t *testing.T) {
	n := &numbers{41}
	for slot := range 2 {
		for _, places := range []int{0, 2, 5, 16} {
			d := littered(t, n, small(), places)
			oldest, old, fresh := n.state(small(), 7), n.state(small(), 11), n.state(small(), places)
			oldest.Seq, old.Seq, fresh.Seq = 20, 21, 22
			wantSave(t, d, slot, oldest)
			wantSave(t, d, 1-slot, old)
			l := laid(64, fresh)
			for step := range len(l) + 1 {
				for keep := range step + 1 {
					for _, left := range []int{-1, 0, 1, 8, 26, 32, 62, 63, 64, 65} {
						now := begun(d.Zones(), small(), slot, l[:step])
						wantWritten(t, now, step == len(l), old, fresh, slot)
						loss := make([]api.Loss, 2)
						loss[slot] = api.Loss{Keep: keep, Torn: left}
						now.Crash(loss)
						whole := keep == len(l) || keep == len(l)-1 && step == len(l) && left >= 64
						wantWritten(t, now, whole, old, fresh, slot)
					}
				}
			}
		}
	}
}

func wantWritten(t *testing.T, d *zone.Dev, whole bool, old, fresh api.State, slot int) {
	t.Helper()
	if whole {
		wantLoad(t, "all was written", d, fresh, slot)
	} else {
		wantLoad(t, "not all was written", d, old, 1-slot)
	}
}

// Checkpoints by turns, each behind a crash that loses what was appended since: the newest is there.
func TestCheckpointsByTurns(t *testing.T) {
	n := &numbers{42}
	d := zone.New(small())
	for turn := range 30 {
		st := n.state(small(), turn%17)
		st.Seq = uint64(turn)
		wantSave(t, d, turn%2, st)
		d.Append(2+turn%4, n.bytes(64))
		d.Crash(nil)
		wantLoad(t, "by turns", d, st, turn%2)
	}
}

// FuzzLoad: of any bytes in the slots Load tells what the document says, and changes nothing.
func FuzzLoad(f *testing.F) {
	n := &numbers{43}
	for _, places := range []int{0, 2, 3, 16} {
		f.Add(bytes.Join(laid(64, n.state(small(), places)), nil), bytes.Join(laid(64, n.state(small(), 3)), nil), true)
	}
	f.Add([]byte(nil), make([]byte, 128), false)
	f.Fuzz(func(t *testing.T, a, b []byte, seal bool) {
		var l []api.Zone
		for _, slot := range [][]byte{a, b} {
			blocks := copied(cut(slot[:min(len(slot)/64, 8)*64], 64))
			for i := range blocks {
				if seal {
					blocks[i] = sealed(blocks[i])
				}
			}
			l = append(l, holding(blocks, 0))
		}
		d := opened(t, small(), l...)
		first, one := told(small(), l[0].Blocks)
		second, two := told(small(), l[1].Blocks)
		switch {
		case two && (!one || second.Seq > first.Seq):
			wantLoad(t, "any bytes", d, second, 1)
		case one:
			wantLoad(t, "any bytes", d, first, 0)
		default:
			wantNoLoad(t, "any bytes", d)
		}
	})
}
