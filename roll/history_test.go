package roll_test

import (
	"bytes"
	"maps"
	"testing"

	"coaming/api"
	"coaming/ckpt"
	"coaming/clean"
	"coaming/roll"
	"coaming/store"
	"coaming/zone"
)

// What follows holds stores that are written, cleaned, and crash at any point, against all that was put.

// disk is what blocks are.
type disk map[key]string

func (k disk) put(p api.Put) {
	if p.Drop {
		delete(k, key{p.Tenant, p.Block})
	} else {
		k[key{p.Tenant, p.Block}] = string(p.Data)
	}
}

// history is a store, and all that may be there of it behind a crash.
type history struct {
	s     *store.Store
	kept  disk      // at the last flush
	since []api.Put // what was put behind it
	seq   uint64    // the store's, at the last flush
	sum   *crashes
}

// crashes is how many there were, and of how many of them there was a part of what was put since the last flush, or all of it.
type crashes struct{ all, some, whole, torn, amid int }

func (h *history) put(t *testing.T, l []api.Put) {
	t.Helper()
	put(t, h.s, l...)
	h.since = append(h.since, l...)
}

// flushed is said when all is there for good.
func (h *history) flushed() {
	for _, p := range h.since {
		h.kept.put(p)
	}
	h.since, h.seq = nil, h.s.Seq()
}

// crash loses what it does, and asks that what is recovered was there at some point, not ahead of the last flush.
func (h *history) crash(t *testing.T, l []api.Loss) {
	t.Helper()
	d, seq := h.s.Dev(), h.s.Seq()
	d.Crash(l)
	s, errno := roll.Recover(d)
	if errno != api.OK {
		t.Fatalf("Recover: %v", errno)
	}
	found := whole(t, s)
	now := maps.Clone(h.kept)
	n := 0
	for ; !maps.Equal(now, found); n++ {
		if n == len(h.since) {
			t.Fatalf("what is there was never there: %v", found)
		}
		now.put(h.since[n])
	}
	if s.Seq() < h.seq || s.Seq() > seq {
		t.Fatalf("Seq: %d, want %d to %d", s.Seq(), h.seq, seq)
	}
	h.sum.all++
	if n > 0 {
		h.sum.some++
	}
	if n > 0 && n == len(h.since) {
		h.sum.whole++
	}
	h.s, h.kept, h.since = s, found, nil
	h.seq = s.Seq()
}

// whole is all that a store has.
func whole(t *testing.T, s *store.Store) disk {
	t.Helper()
	out := disk{}
	for _, p := range s.Map().All() {
		b, is := s.Get(p.Tenant, p.Block)
		if !is {
			t.Fatalf("%v is not there", p)
		}
		out[key{p.Tenant, p.Block}] = string(b)
	}
	return out
}

// losses are any, also none and all.
func (h *history) losses(s *script) []api.Loss {
	at := h.s.Dev().Shape()
	var l []api.Loss
	kind := s.below(4)
	for range at.Zones {
		switch kind {
		case 0:
			l = append(l, api.Loss{Keep: at.ZoneBlocks})
		case 1:
			l = append(l, api.Loss{Keep: s.below(3), Torn: s.below(at.Block + 1)})
			h.sum.torn++
		default:
			l = append(l, api.Loss{Keep: s.below(at.ZoneBlocks), Torn: s.below(2) * s.below(at.Block+1)})
		}
	}
	return l[:s.below(len(l)+1)]
}

// step cleans a zone as clean.Step does, and may crash at any point of it; false: there is none to be cleaned.
func (h *history) step(t *testing.T, s *script) bool {
	z := clean.Pick(h.s)
	if z < 0 {
		return false
	}
	stop := s.below(12)
	var l []api.Put
	for i, p := range h.s.Map().In(z) {
		if stop == 0 && i > 0 {
			break
		}
		b, _ := h.s.Get(p.Tenant, p.Block)
		l = append(l, api.Put{Tenant: p.Tenant, Block: p.Block, Data: b})
	}
	h.put(t, l)
	if stop < 2 {
		h.sum.amid++
		h.crash(t, h.losses(s))
		return true
	}
	h.s.Flush()
	h.flushed()
	switch stop {
	case 2:
		h.sum.amid++
		h.crash(t, h.losses(s))
		return true
	case 3:
		h.marking(t, s)
		return true
	}
	if h.s.Mark() != api.OK {
		t.Fatal("Mark")
	}
	if stop == 4 {
		h.sum.amid++
		h.crash(t, h.losses(s))
		return true
	}
	if !h.s.Clear(z) {
		t.Fatal("Clear")
	}
	return true
}

// marking crashes while a checkpoint is written to the slot that is not the last one, of what was flushed, as a step of clean does it.
func (h *history) marking(t *testing.T, s *script) {
	t.Helper()
	d := h.s.Dev()
	_, slot, errno := ckpt.Load(d)
	if errno != api.OK {
		t.Fatalf("Load: %v", errno)
	}
	l, _ := ckpt.Encode(d.Shape(), api.State{Seq: h.s.Seq(), Places: h.s.Map().All()})
	d.Reset(1 - slot)
	add(t, d, 1-slot, l[:s.below(len(l)+1)]...)
	h.sum.amid++
	h.crash(t, h.losses(s))
}

// run cleans as clean.Run does: at first with crashes between, then without them till enough zones are free.
func (h *history) run(t *testing.T, s *script) {
	t.Helper()
	for range h.s.Dev().Shape().Zones {
		if !h.s.Low() || !h.step(t, s) {
			return
		}
	}
	if clean.Run(h.s) > 0 {
		h.flushed()
	}
}

// list is puts of few blocks, at most so many; as many of them have data at once as quotas would let.
func (s *script) list(at api.Shape, most int) []api.Put {
	quota := (at.Zones - 3 - at.Reserve) * (at.ZoneBlocks / 4)
	var l []api.Put
	for range 1 + s.below(most) {
		n := s.below(quota)
		p := api.Put{Tenant: uint32(n % 3), Block: uint64(n / 3), Drop: s.below(4) == 0}
		if !p.Drop {
			p.Data = filled(at.Block, string([]byte{byte(s.next()), byte(s.next()), 0, byte(s.next())}))
		}
		l = append(l, p)
	}
	return l
}

func live(t *testing.T, s *script, sum *crashes) {
	at := shapes()[s.below(len(shapes()))]
	h := history{s: store.New(at), kept: disk{}, sum: sum}
	for len(s.left) > 0 {
		switch s.below(16) {
		case 0:
			h.crash(t, h.losses(s))
		case 1:
			h.s.Flush()
			h.flushed()
		case 2:
			if h.s.Mark() != api.OK {
				t.Fatal("Mark")
			}
			h.flushed()
		case 3:
			h.s.Flush()
			h.flushed()
			h.marking(t, s)
		case 4:
			h.run(t, s)
			h.step(t, s)
		default:
			h.run(t, s)
			h.put(t, s.list(at, at.ZoneBlocks/4))
		}
	}
}

func TestManyCrashes(t *testing.T) {
	var sum crashes
	for seed := range uint64(400) {
		live(t, &script{numbers(seed, 1500)}, &sum)
	}
	if min(sum.all, sum.some, sum.whole, sum.torn, sum.amid) < 200 || sum.some == sum.whole {
		t.Fatalf("too few of some kind: %+v", sum)
	}
}

func FuzzCrashes(f *testing.F) {
	for seed := range uint64(20) {
		f.Add(numbers(seed, 400))
	}
	f.Fuzz(func(t *testing.T, b []byte) { live(t, &script{b[:min(len(b), 2000)]}, new(crashes)) })
}

// TestEveryCrash has a store's records, flushed at each point, with every loss of the zones behind it.
func TestEveryCrash(t *testing.T) {
	at := small()
	l := [][]api.Put{
		{data(1, "a"), data(2, "b")}, {data(1, "c")}, {drop(2), data(3, "\x00d")}, {data(4, "e")},
		{drop(1)}, {data(2, "f"), drop(3)}, {data(1, "g"), data(5, "h")},
	}
	for flush := range len(l) + 1 {
		s := store.New(at)
		for i, x := range l {
			if i == flush {
				s.Flush()
			}
			put(t, s, x...)
		}
		if flush == len(l) {
			s.Flush()
		}
		zones := s.Dev().Zones()
		for first := range 9 {
			for second := range 9 {
				for _, torn := range []int{0, 1, 63} {
					d := zone.Open(at, zones)
					d.Crash([]api.Loss{{}, {}, {Keep: first, Torn: torn}, {Keep: second, Torn: torn}})
					wantSomePoint(t, d, l, flush)
				}
			}
		}
	}
}

// wantSomePoint recovers a device, twice, on which lists were put, each a record, some of them flushed.
func wantSomePoint(t *testing.T, d *zone.Dev, l [][]api.Put, flushed int) {
	t.Helper()
	// As far as records are whole, one behind the other, whatever stands behind the first one that is not.
	there := map[uint64]int{}
	greatest := uint64(0)
	for _, z := range d.Zones()[2:] {
		records, _ := scanned(z.Blocks)
		for _, r := range records {
			there[r.Seq]++
			greatest = max(greatest, r.Seq)
		}
	}
	n := 0
	for there[uint64(n+1)] > 0 {
		n++
	}
	if n < flushed {
		t.Fatalf("%d records of %d that were flushed", n, flushed)
	}
	want := disk{}
	for _, x := range l[:n] {
		for _, p := range x {
			want.put(p)
		}
	}
	for range 2 {
		s, errno := roll.Recover(d)
		if errno != api.OK || s.Seq() != greatest {
			t.Fatalf("Recover: %v, want %d", errno, greatest)
		}
		if got := whole(t, s); !maps.Equal(got, want) {
			t.Fatalf("there is %v, want that of %d records: %v", got, n, want)
		}
		d.Crash(nil)
	}
}

// TestCrashesWhileItRecovers crashes while Recover writes its checkpoint: the next one tells what it would have.
func TestCrashesWhileItRecovers(t *testing.T) {
	s := store.New(small())
	put(t, s, data(1, "a"), data(2, "b"), data(3, "c"))
	s.Flush()
	put(t, s, data(1, "d"), data(4, "e"))
	s.Dev().Crash([]api.Loss{{}, {}, {Keep: 2}})
	zones := s.Dev().Zones()
	u := wantStore(t, s.Dev(), 2, place(1, 1, 2, 1), place(1, 2, 2, 2), place(1, 3, 2, 4))
	after := u.Dev().Zones()[1].Blocks
	for n := range len(after) + 1 {
		for torn := range 65 {
			d := zone.Open(small(), zones)
			add(t, d, 1, after...)
			d.Crash([]api.Loss{{}, {Keep: n, Torn: torn}})
			v := wantStore(t, d, 2, u.Map().All()...)
			for _, p := range u.Map().All() {
				b, _ := u.Get(p.Tenant, p.Block)
				if c, _ := v.Get(p.Tenant, p.Block); !bytes.Equal(b, c) {
					t.Fatalf("%v is %q, want %q", p, c, b)
				}
			}
		}
	}
}
