package vol_test

import (
	"bytes"
	"testing"

	"coaming/api"
	"coaming/vol"
)

// What follows has volumes crash at any point, and asks that what was flushed stays: each block is what it was at the last flush, or what some command made it since.

// history is volumes, and what each block may be behind a crash.
type history struct {
	v    *vol.Vol
	l    []api.Tenant
	now  map[key]string // those that are somewhere
	kept map[key]string
	// What commands made blocks since: "" is nowhere.
	since map[key][]string
	// Of how it came.
	crashes, lost, torn int
}

const blocksEach = 10

// flushed is said when all is there for good.
func (h *history) flushed() {
	clear(h.kept)
	for k, b := range h.now {
		h.kept[k] = b
	}
	clear(h.since)
}

func (h *history) become(k key, data string) {
	if data == "" {
		delete(h.now, k)
	} else {
		h.now[k] = data
	}
	h.since[k] = append(h.since[k], data)
}

// command does one; for good or not.
func (h *history) command(t *testing.T, s *script) {
	t.Helper()
	size := h.v.Store().Dev().Shape().Block
	tenant := h.l[s.below(len(h.l))]
	first, count := s.below(blocksEach), 1+s.below(3)
	if s.below(6) == 0 {
		first, count = 0, blocksEach
	}
	e, offset, good := most(tenant.ID), uint64(first*size), s.below(8) == 0
	var answer uint32
	kind := s.below(6)
	data := text(count*size, s.next())
	switch kind {
	case 0:
		answer = h.v.Trim(e, offset, uint32(count*size), good)
	case 1:
		answer = h.v.Zero(e, offset, uint32(count*size), good)
	default:
		answer = h.v.Write(e, offset, []byte(data), good)
	}
	if answer == api.AnsNoSpc && kind > 1 {
		return
	}
	wantAnswer(t, "command", answer, api.AnsOK)
	for i := range count {
		k := key{tenant.ID, uint64(first + i)}
		if _, is := h.now[k]; kind < 2 && is {
			h.become(k, "")
		} else if kind > 1 {
			h.become(k, data[i*size:][:size])
		}
	}
	if good {
		h.flushed()
	}
}

// crash loses what it does, and recovers it twice.
func (h *history) crash(t *testing.T, s *script) {
	t.Helper()
	d := h.v.Store().Dev()
	at := d.Shape()
	var losses []api.Loss
	for range s.below(at.Zones + 1) {
		losses = append(losses, api.Loss{Keep: s.below(at.ZoneBlocks + 1), Torn: s.below(2) * s.below(at.Block+1)})
	}
	if durable, all := kept(h.v); durable < all {
		h.torn++
	}
	d.Crash(losses)
	before := len(h.now)
	h.v = recovered(t, d, h.l...)
	h.found(t, at.Block)
	if len(h.now) != before {
		h.lost++
	}
	d.Crash(nil)
	h.v = recovered(t, d, h.l...)
	for k := range h.everyBlock() {
		if got := h.read(t, k, at.Block); got != h.now[k] && got != noughts(at.Block) {
			t.Fatalf("recovered again, %v is %q, was %q", k, got, h.now[k])
		}
	}
	h.crashes++
	h.flushed()
}

// everyBlock is each block that there may be.
func (h *history) everyBlock() map[key]bool {
	l := map[key]bool{}
	for _, x := range h.l {
		for i := range uint64(blocksEach + 3) {
			l[key{x.ID, i}] = true
		}
	}
	return l
}

func (h *history) read(t *testing.T, k key, size int) string {
	t.Helper()
	b, answer := h.v.Read(most(k.tenant), k.block*uint64(size), uint32(size))
	wantAnswer(t, "Read", answer, api.AnsOK)
	return string(b)
}

// found asks that each block is what it may be, and how many each tenant has.
func (h *history) found(t *testing.T, size int) {
	t.Helper()
	used := map[uint32]uint64{}
	clear(h.now)
	for k := range h.everyBlock() {
		got := h.read(t, k, size)
		_, is := h.v.Store().Map().Get(k.tenant, k.block)
		if !is {
			if got != noughts(size) {
				t.Fatalf("%v is nowhere, but %q", k, got)
			}
			got = ""
		}
		ok := got == h.kept[k]
		for _, x := range h.since[k] {
			ok = ok || got == x
		}
		if !ok {
			t.Fatalf("%v is %q, which it was not since the last flush", k, got)
		}
		if is {
			h.now[k] = got
			used[k.tenant]++
		}
	}
	for _, x := range h.l {
		if got := h.v.Used(x.ID); got != used[x.ID] {
			t.Fatalf("Used(%d): %d, want %d", x.ID, got, used[x.ID])
		}
	}
}

// endure does what a script picks, with crashes.
func endure(t *testing.T, s *script) *history {
	t.Helper()
	at := shapes()[s.below(len(shapes()))]
	l := s.quotas(at)
	h := &history{v: made(t, at, l...), l: l, now: map[key]string{}, kept: map[key]string{}, since: map[key][]string{}}
	for len(s.left) > 0 {
		switch s.below(25) {
		case 0:
			h.v.Flush()
			h.flushed()
		case 1:
			h.v.Clean()
		case 2:
			h.crash(t, s)
		default:
			h.command(t, s)
		}
	}
	return h
}

func TestManyCrashes(t *testing.T) {
	crashes, lost, torn := 0, 0, 0
	for seed := range uint64(250) {
		h := endure(t, &script{numbers(seed, 2500)})
		crashes, lost, torn = crashes+h.crashes, lost+h.lost, torn+h.torn
	}
	if min(crashes, lost, torn) < 200 {
		t.Fatalf("too few of some kind: %d, %d, %d", crashes, lost, torn)
	}
}

func FuzzCrashes(f *testing.F) {
	for seed := range uint64(20) {
		f.Add(numbers(seed, 500))
	}
	f.Fuzz(func(t *testing.T, b []byte) { endure(t, &script{b[:min(len(b), 3000)]}) })
}

// TestEachGoodCommandStays crashes behind each kind of command that was to be for good, and loses all that can be lost.
func TestEachGoodCommandStays(t *testing.T) {
	l := tenants(4, 2)
	// So many zones that none is cleaned, which would make durable what was not flushed.
	v := made(t, shape(20, 16, 64, 2), l...)
	again := func() {
		v.Store().Dev().Crash(nil)
		v = recovered(t, v.Store().Dev(), l...)
	}
	wantAnswer(t, "Write", v.Write(most(1), 10, []byte(text(200, 1)), true), api.AnsOK)
	again()
	wantRead(t, v, most(1), 0, noughts(10)+text(200, 1))
	wantUsed(t, v, 4)
	wantAnswer(t, "Trim", v.Trim(most(1), 0, 100, true), api.AnsOK)
	again()
	wantRead(t, v, most(1), 0, noughts(64)+text(200, 1)[54:])
	wantUsed(t, v, 3)
	wantAnswer(t, "Zero", v.Zero(most(1), 100, 100, true), api.AnsOK)
	again()
	want := over(noughts(64)+text(200, 1)[54:], 100, noughts(100))
	wantRead(t, v, most(1), 0, want)
	wantUsed(t, v, 2)
	// What is not flushed is lost here, and another command for good keeps it.
	write(t, v, most(1), 0, "lost")
	write(t, v, most(2), 0, "lost")
	again()
	wantRead(t, v, most(1), 0, want)
	wantUsed(t, v, 2, 0)
	write(t, v, most(2), 0, "kept")
	wantAnswer(t, "Trim", v.Trim(most(1), 640, 64, true), api.AnsOK)
	again()
	wantUsed(t, v, 2, 1)
	wantRead(t, v, most(2), 0, "kept\x00")
	if b, _ := v.Read(most(1), 0, 210); !bytes.Equal(b, []byte(want)) {
		t.Fatalf("%q, want %q", b, want)
	}
}
