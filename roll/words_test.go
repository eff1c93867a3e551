package roll_test

import (
	"bytes"
	"cmp"
	"slices"
	"testing"

	"coaming/api"
	"coaming/ckpt"
	"coaming/crc"
	"coaming/rec"
	"coaming/zone"
)

// What follows is the chapter by its words alone, of devices that may hold anything.

// scanned is what Scan tells of a zone's blocks.
func scanned(blocks [][]byte) ([]api.Record, []int) {
	var l []api.Record
	var at []int
	for i := 0; i < len(blocks); {
		r, errno := rec.Decode(blocks[i])
		if errno != api.OK {
			break
		}
		behind := i + 1
		for _, x := range r.Items {
			if x.Kind == api.ItemDrop {
				continue
			}
			if behind == len(blocks) || crc.Sum(blocks[behind]) != x.Sum || len(bytes.TrimRight(blocks[behind], "\x00")) != int(x.End) {
				return l, at
			}
			behind++
		}
		l, at = append(l, r), append(at, i)
		i = behind
	}
	return l, at
}

// key is a tenant's block.
type key struct {
	tenant uint32
	block  uint64
}

// where is where blocks are.
type where map[key]api.Addr

func (w where) put(k key, at api.Addr) {
	for other, a := range w {
		if a == at {
			delete(w, other)
		}
	}
	w[k] = at
}

func (w where) places() []api.Place {
	var l []api.Place
	for k, at := range w {
		l = append(l, api.Place{Tenant: k.tenant, Block: k.block, At: at})
	}
	slices.SortFunc(l, func(a, b api.Place) int {
		return cmp.Or(cmp.Compare(a.Tenant, b.Tenant), cmp.Compare(a.Block, b.Block))
	})
	return l
}

// wanted is what is to be there when a device was recovered.
type wanted struct {
	seq    uint64
	places []api.Place
	full   []int
	slot   int // of the new checkpoint
	zones  []api.Zone
	// Of how it came: numbers that were followed, records that were not.
	followed, left int
}

// recovered is what Recover is to say of a device. Records are asked for by their numbers, one behind the other.
func recovered(d *zone.Dev) (wanted, api.Errno) {
	st, slot, errno := ckpt.Load(d)
	if errno != api.OK {
		return wanted{}, errno
	}
	x := wanted{seq: st.Seq, slot: 1 - slot, zones: d.Zones()}
	w := where{}
	for _, p := range st.Places {
		if p.At.Block < len(x.zones[p.At.Zone].Blocks) {
			w.put(key{p.Tenant, p.Block}, p.At)
		}
	}
	for z := 2; z < len(x.zones); z++ {
		if len(x.zones[z].Blocks) > 0 {
			x.full = append(x.full, z)
		}
		l, _ := scanned(x.zones[z].Blocks)
		for _, r := range l {
			x.seq = max(x.seq, r.Seq)
			if r.Seq > st.Seq {
				x.left++
			}
		}
	}
	for seq := st.Seq; seq != 1<<64-1 && w.follow(x.zones, seq+1); seq++ {
		x.followed++
	}
	x.left -= x.followed
	x.places = w.places()
	l, errno := ckpt.Encode(d.Shape(), api.State{Seq: x.seq, Places: x.places})
	if errno != api.OK {
		return wanted{}, errno
	}
	x.zones[x.slot].Blocks = l
	for z := range x.zones {
		x.zones[z].Durable = len(x.zones[z].Blocks)
	}
	return x, api.OK
}

// follow does what the first record of a number says; false: there is none.
func (w where) follow(zones []api.Zone, seq uint64) bool {
	for z := 2; z < len(zones); z++ {
		l, at := scanned(zones[z].Blocks)
		i := slices.IndexFunc(l, func(r api.Record) bool { return r.Seq == seq })
		if i < 0 {
			continue
		}
		b := at[i]
		for _, x := range l[i].Items {
			if x.Kind == api.ItemDrop {
				delete(w, key{x.Tenant, x.Block})
			} else {
				b++
				w.put(key{x.Tenant, x.Block}, api.Addr{Zone: z, Block: b})
			}
		}
		return true
	}
	return false
}

func wantAllScans(t *testing.T, d *zone.Dev) {
	t.Helper()
	zones := d.Zones()
	for z := range zones {
		l, at := scanned(zones[z].Blocks)
		wantScan(t, d, z, l, at...)
	}
	wantScan(t, d, -1, nil)
	wantScan(t, d, len(zones), nil)
	wantZones(t, "behind Scan", d, zones)
}

// wantRecover recovers a device, once and again, and asks for all that is there.
func wantRecover(t *testing.T, d *zone.Dev) (wanted, api.Errno) {
	t.Helper()
	x, errno := recovered(d)
	if errno != api.OK {
		wantError(t, d, errno)
		return x, errno
	}
	for range 2 {
		s := wantStore(t, d, x.seq, x.places...)
		if s.Dev() != d {
			t.Fatal("it is on another device")
		}
		for z := range x.zones {
			state, last := api.ZoneFree, uint64(0)
			switch {
			case z < 2:
				state = api.ZoneKept
			case slices.Contains(x.full, z):
				state, last = api.ZoneFull, x.seq
			}
			if s.Seg().State(z) != state || s.Last(z) != last {
				t.Fatalf("zone %d: state %d, Last %d, want %d, %d", z, s.Seg().State(z), s.Last(z), state, last)
			}
		}
		for _, p := range x.places {
			wantGet(t, s, api.Put{Tenant: p.Tenant, Block: p.Block, Data: x.zones[p.At.Zone].Blocks[p.At.Block]})
		}
		wantZones(t, "behind Recover", d, x.zones)
		again, errno := recovered(d)
		if errno != api.OK || again.seq != x.seq || !slices.Equal(again.places, x.places) || !slices.Equal(again.full, x.full) {
			t.Fatalf("once more it is %v, %v, want %v", again, errno, x)
		}
		// The slots go by turns.
		x = again
	}
	return x, api.OK
}

func shapes() []api.Shape {
	return []api.Shape{small(), shape(7, 9, 128, 3), shape(8, 16, 64, 4), shape(6, 11, 256, 2), shape(9, 8, 512, 2)}
}

// littered is a device that may hold anything: checkpoints, records, and what is none of both.
func (s *script) littered(t *testing.T) *zone.Dev {
	at := shapes()[s.below(len(shapes()))]
	d := zone.New(at)
	base := uint64(s.below(4)) * (1 << 62)
	if s.below(4) == 0 {
		base--
	}
	seq := base + uint64(s.below(4))
	for range s.below(3) {
		save(t, d, s.below(2), seq-uint64(s.below(3)), s.places(at)...)
	}
	if s.below(8) == 0 {
		add(t, d, s.below(2), filled(at.Block, "junk"))
	}
	next := seq
	for range s.below(30) {
		z := 2 + s.below(at.Zones-2)
		switch s.below(10) {
		case 0:
			next = seq + uint64(s.below(6)) - 2
		case 1, 2:
		default:
			next++
		}
		s.litter(t, d, z, next)
	}
	if s.below(3) == 0 {
		var l []api.Loss
		for range at.Zones {
			l = append(l, api.Loss{Keep: s.below(at.ZoneBlocks), Torn: s.below(at.Block + 1)})
		}
		d.Crash(l)
	}
	return d
}

// places are some that a checkpoint may have, also two at one place.
func (s *script) places(at api.Shape) []api.Place {
	w := map[key]api.Addr{}
	for range s.below(12) {
		w[key{uint32(s.below(3)), uint64(s.below(6))}] = api.Addr{Zone: 2 + s.below(at.Zones-2), Block: s.below(at.ZoneBlocks)}
	}
	return where(w).places()
}

// litter appends what may be a record and its data to a zone, as far as there is room.
func (s *script) litter(t *testing.T, d *zone.Dev, z int, seq uint64) {
	size := d.Shape().Block
	var l []api.Put
	for range 1 + s.below(rec.Room(size)) {
		p := api.Put{Tenant: uint32(s.below(3)), Block: uint64(s.below(6)), Drop: s.below(4) == 0}
		if !p.Drop {
			p.Data = filled(size, string([]byte{byte(s.next()), 0, byte(s.next())}))
		}
		l = append(l, p)
	}
	blocks := [][]byte{head(t, d, record(seq, l...))}
	for _, p := range l {
		if !p.Drop {
			blocks = append(blocks, p.Data)
		}
	}
	switch wrong := s.below(len(blocks)); s.below(24) {
	case 0: // one is not there
		blocks = slices.Delete(blocks, wrong, wrong+1)
	case 1: // one is wrong
		blocks[wrong] = bytes.Clone(blocks[wrong])
		blocks[wrong][s.below(size)] ^= 1 << s.below(8)
	case 2: // one is torn
		blocks[wrong] = filled(size, string(blocks[wrong][:s.below(size)]))
	case 3:
		d.Flush()
	}
	for _, b := range blocks {
		d.Append(z, b)
	}
}

// counts is how many devices of each kind there were.
type counts struct{ recovered, followed, left, none int }

func play(t *testing.T, s *script, sum *counts) {
	d := s.littered(t)
	wantAllScans(t, d)
	first, _ := recovered(d)
	switch _, errno := wantRecover(t, d); errno {
	case api.ErrCkptNone:
		sum.none++
	case api.OK:
		sum.recovered++
		sum.followed += min(first.followed, 1)
		sum.left += min(first.left, 1)
	}
}

func TestManyDevices(t *testing.T) {
	var sum counts
	for seed := range uint64(3000) {
		play(t, &script{numbers(seed, 600)}, &sum)
	}
	if min(sum.recovered, sum.followed, sum.left, sum.none) < 500 {
		t.Fatalf("too few of some kind: %+v", sum)
	}
}

func FuzzDevices(f *testing.F) {
	for seed := range uint64(20) {
		f.Add(numbers(seed, 400))
	}
	f.Fuzz(func(t *testing.T, b []byte) { play(t, &script{b[:min(len(b), 2000)]}, new(counts)) })
}

// FuzzZones has zones whose blocks are any bytes: each call ends, and no call panics.
func FuzzZones(f *testing.F) {
	d := zone.New(small())
	f.Add(head(f, d, record(1, drop(1))))
	f.Add(append(head(f, d, record(1, data(1, "a"))), filled(64, "a")...))
	f.Fuzz(func(t *testing.T, b []byte) {
		d := marked(t, 0, place(1, 1, 2, 0))
		for i := 0; i < 8 && len(b) > 0; i++ {
			n := min(len(b), 64)
			add(t, d, 2, filled(64, string(b[:n])))
			b = b[n:]
		}
		wantAllScans(t, d)
		wantRecover(t, d)
	})
}
