package vol_test

import (
	"bytes"
	"math"
	"testing"
	"time"

	"coaming/api"
	"coaming/ckpt"
	"coaming/clean"
	"coaming/rec"
	"coaming/roll"
	"coaming/store"
	"coaming/vol"
)

// crowded is volumes on a device of which all zones but so many are full of tenant 9's blocks, so that none can be cleaned; tenant 1 has two of them.
func crowded(t *testing.T, free int) *vol.Vol {
	t.Helper()
	s := store.New(shape(8, 16, 256, 2))
	const both = 14 // of a zone, in two records
	var l []api.Put
	for n := range uint64(6-free) * both {
		p := block(s, 9, n, int(n))
		if n < 2 {
			p = block(s, 1, n, int(n))
		}
		l = append(l, p)
	}
	for len(l) > 0 {
		first := rec.Room(256)
		put(t, s, l[:first]...)
		put(t, s, l[first:both]...)
		l = l[both:]
	}
	v := recovered(t, s.Dev(), tenants(12)...)
	if n := len(v.Store().Seg().List(api.ZoneFree)); n != free || clean.Pick(v.Store()) != -1 {
		t.Fatal("it is not crowded:", n, clean.Pick(v.Store()))
	}
	return v
}

// TestNoRoom has commands that put something, where the log has no room: what a write has taken stays so, and nothing is given back.
func TestNoRoom(t *testing.T) {
	v := crowded(t, 0)
	was := text(256, 0) + text(256, 1)
	before := v.Store().Dev().Zones()
	wantAnswer(t, "Trim", v.Trim(most(1), 0, 256, true), api.AnsIO)
	wantAnswer(t, "Zero", v.Zero(most(1), 0, 256, true), api.AnsIO)
	wantAnswer(t, "Zero of a part", v.Zero(most(1), 1, 255, true), api.AnsIO)
	wantUsed(t, v, 2)
	wantAnswer(t, "Write of what is there", v.Write(most(1), 0, []byte{7}, true), api.AnsIO)
	wantUsed(t, v, 2)
	wantAnswer(t, "Write", v.Write(most(1), 512, []byte{7}, true), api.AnsIO)
	wantUsed(t, v, 3)
	wantRead(t, v, most(1), 0, was+noughts(256))
	// What puts nothing needs no room.
	wantAnswer(t, "Write of nothing", v.Write(most(1), 9, nil, true), api.AnsOK)
	wantAnswer(t, "Trim of nothing", v.Trim(most(1), 512, 512, true), api.AnsOK)
	wantAnswer(t, "Trim of a part", v.Trim(most(1), 1, 255, true), api.AnsOK)
	wantAnswer(t, "Zero of nothing", v.Zero(most(1), 512, 512, true), api.AnsOK)
	wantAnswer(t, "Write above the quota", v.Write(most(1), 512, make([]byte, 11*256), true), api.AnsNoSpc)
	wantZones(t, "no room", v.Store().Dev(), before)
	if v.Clean() {
		t.Fatal("Clean: true")
	}
}

// TestSomeRoom has a list of which some pieces have room: these stay, but nothing is flushed, nor given back.
func TestSomeRoom(t *testing.T) {
	v := crowded(t, 1)
	wantAnswer(t, "Write", v.Write(most(1), 0, []byte(text(12*256, 5)), true), api.AnsOK)
	wantUsed(t, v, 12)
	wantAnswer(t, "Write", v.Write(most(1), 0, []byte(text(12*256, 6)), true), api.AnsIO)
	wantKept(t, v, "Write", true)

	v = crowded(t, 1)
	wantAnswer(t, "Write", v.Write(most(1), 0, []byte(text(8*256, 5)), true), api.AnsOK)
	wantAnswer(t, "Write", v.Write(most(1), 128, []byte(text(8*256, 6)), true), api.AnsIO)
	wantUsed(t, v, 9)
	wantKept(t, v, "Write", false)
	wantRead(t, v, most(1), 0, text(128, 5)+text(4*256, 6)[:4*256-128]+text(8*256, 5)[4*256:]+noughts(256))

	v = crowded(t, 1)
	write(t, v, most(1), 0, text(8*256, 5))
	write(t, v, most(1), 0, text(2*256, 6))
	write(t, v, most(1), 0, "x")
	wantAnswer(t, "Trim", v.Trim(most(1), 0, 8*256, true), api.AnsIO)
	wantUsed(t, v, 8)
	wantRead(t, v, most(1), 0, noughts(4*256)+text(8*256, 5)[4*256:])
	wantKept(t, v, "Trim", false)
}

// wantRecords asks how many items each record of the first zone has.
func wantRecords(t *testing.T, v *vol.Vol, want ...int) {
	t.Helper()
	l, _ := roll.Scan(v.Store().Dev(), 2)
	if len(l) != len(want) {
		t.Fatalf("%d records, want %d", len(l), len(want))
	}
	for i, r := range l {
		if len(r.Items) != want[i] {
			t.Fatalf("record %d has %d items, want %d", i, len(r.Items), want[i])
		}
	}
}

// TestPieces has lists that are put in pieces of a quarter of a zone's blocks, rounded downwards: 9 of 39.
func TestPieces(t *testing.T) {
	at := shape(12, 39, 1024, 2)
	v := made(t, at, tenants(30)...)
	write(t, v, most(1), 0, text(9*1024, 1))
	wantRecords(t, v, 9)
	v = made(t, at, tenants(30)...)
	write(t, v, most(1), 512, text(9*1024, 1))
	wantRecords(t, v, 9, 1)
	v = made(t, at, tenants(30)...)
	write(t, v, most(1), 0, text(19*1024, 1))
	wantRecords(t, v, 9, 9, 1)
	trim(t, v, most(1), 1, 11*1024-1)
	wantRecords(t, v, 9, 9, 1, 9, 1)
	zero(t, v, most(1), 512, 18*1024)
	wantRecords(t, v, 9, 9, 1, 9, 1, 9)
	wantUsed(t, v, 2)
	// The one that lies in the range in part stands at its place in the list, ahead of the Drops and behind them.
	l, _ := roll.Scan(v.Store().Dev(), 2)
	for i, x := range l[5].Items {
		kind, number := api.ItemDrop, uint64(i+10)
		if i == 0 {
			kind, number = api.ItemData, 0
		}
		if i == 8 {
			kind, number = api.ItemData, 18
		}
		if x.Kind != kind || x.Block != number || x.Tenant != 1 {
			t.Fatalf("item %d: %v", i, x)
		}
	}
}

// TestCleansAheadOfEachPiece has lists that need more than the zones that are kept free: it is not enough to clean ahead of the whole.
func TestCleansAheadOfEachPiece(t *testing.T) {
	v := made(t, shape(13, 512, 64, 2), tenants(1024)...)
	for i := range 12 {
		write(t, v, most(1), 0, text(65536, i))
		if n := len(v.Store().Seg().List(api.ZoneFree)); n < 2 {
			t.Fatal("zones that are free:", n)
		}
		wantRead(t, v, most(1), 0, text(65536, i))
	}
}

// room is how many blocks all quotas of a shape may be together.
func room(s api.Shape) int {
	return min((s.Zones-3-s.Reserve)*(s.ZoneBlocks/4), s.ZoneBlocks*ckpt.Room(s.Block))
}

// busy is volumes whose quotas are all that fits, and what they have.
type busy struct {
	v    *vol.Vol
	l    []api.Tenant
	disk map[key][]byte
}

type key struct {
	tenant uint32
	block  uint64
}

// command does one, and asks that it is refused for nothing but the tenant's own quota.
func (x *busy) command(t *testing.T, s *script) {
	t.Helper()
	at := x.v.Store().Dev().Shape()
	tenant := x.l[s.below(len(x.l))]
	first, count := s.below(int(tenant.Quota)+2), 1+s.below(3)
	if s.below(8) == 0 {
		first, count = 0, int(tenant.Quota)
	}
	offset, length := uint64(first*at.Block), uint32(count*at.Block)
	var got, want uint32
	switch s.below(8) {
	case 0:
		got = x.v.Trim(most(tenant.ID), offset, length, false)
		for i := range count {
			delete(x.disk, key{tenant.ID, uint64(first + i)})
		}
	case 1:
		got = x.v.Zero(most(tenant.ID), offset, length, false)
		for i := range count {
			delete(x.disk, key{tenant.ID, uint64(first + i)})
		}
	default:
		data := []byte(text(int(min(length, 65536)), s.next()))
		if want = x.write(tenant, first, data, at.Block); want == api.AnsOK && s.below(9) == 0 {
			x.v.Flush()
		}
		got = x.v.Write(most(tenant.ID), offset, data, s.below(9) == 0)
	}
	wantAnswer(t, "command", got, want)
	if n := len(x.v.Store().Seg().List(api.ZoneFree)); n < at.Reserve {
		t.Fatalf("%v: %d zones are free", at, n)
	}
}

// write does the same to the disk, and is the answer.
func (x *busy) write(tenant api.Tenant, first int, data []byte, size int) uint32 {
	n := uint64(0)
	for k := range x.disk {
		if k.tenant == tenant.ID {
			n++
		}
	}
	for i := 0; i < len(data); i += size {
		if _, is := x.disk[key{tenant.ID, uint64(first + i/size)}]; !is {
			n++
		}
	}
	if n > tenant.Quota {
		return api.AnsNoSpc
	}
	for i := 0; i < len(data); i += size {
		x.disk[key{tenant.ID, uint64(first + i/size)}] = data[i:min(i+size, len(data))]
	}
	return api.AnsOK
}

// TestRoomForAll has tenants that use all that fits, again and again, of any shapes: no answer is AnsIO, no fewer zones are free than the reserve.
func TestRoomForAll(t *testing.T) {
	for seed := range uint64(150) {
		s := &script{numbers(seed, 4000)}
		at := shape(6+s.below(7), 8+s.below(20), 64<<s.below(3), 2)
		at.Reserve += s.below(at.Zones - 5)
		left := room(at)
		var quotas []uint64
		for range s.below(3) {
			n := s.below(left + 1)
			left -= n
			quotas = append(quotas, uint64(n))
		}
		l := tenants(append(quotas, uint64(left))...)
		x := busy{made(t, at, l...), l, map[key][]byte{}}
		for len(s.left) > 0 {
			x.command(t, s)
		}
		for k, want := range x.disk {
			got, answer := x.v.Read(most(k.tenant), k.block*uint64(at.Block), uint32(len(want)))
			if answer != api.AnsOK || !bytes.Equal(got, want) {
				t.Fatalf("%v: %v is %q, want %q", at, k, got, want)
			}
		}
	}
}

// TestLongRanges empties ranges of 2^26 blocks, again and again: what is somewhere in them makes the work.
func TestLongRanges(t *testing.T) {
	v := made(t, wide(), tenants(6, 6)...)
	write(t, v, most(2), 5000, text(100, 1))
	begin := time.Now()
	for i := range uint64(2000) {
		offset := i << 50
		write(t, v, most(1), offset+1<<31, "a")
		write(t, v, most(1), offset+1<<32-65, "b")
		if i%2 == 0 {
			trim(t, v, most(1), offset, math.MaxUint32)
			wantUsed(t, v, 0, 2)
		} else {
			zero(t, v, most(1), offset+1, math.MaxUint32)
			wantUsed(t, v, 0, 2)
		}
		if time.Since(begin) > time.Minute {
			t.Fatal("too much work, at", i)
		}
	}
	wantRead(t, v, most(2), 5000, text(100, 1))
}

// TestLongRangesHaveEdges has blocks at both ends of ranges, of as many blocks as are asked for one by one, and of more.
func TestLongRangesHaveEdges(t *testing.T) {
	for _, n := range []uint64{1, 2, 1023, 1024, 1025, 1026, 1027, 4096, 1 << 25} {
		for _, first := range []uint64{0, 1, 1000, 1 << 40} {
			v := made(t, wide(), tenants(6, 6)...)
			base := (first + 1) * 64
			for _, at := range []uint64{base - 64, base, base + (n-1)*64, base + n*64} {
				write(t, v, most(1), at, text(64, int(at%1000)))
				write(t, v, most(2), at, text(64, 7))
			}
			used := v.Used(1)
			// One byte less at each end, and blocks are emptied in parts.
			trim(t, v, most(1), base+1, uint32(n*64-2))
			wantUsed(t, v, used)
			zero(t, v, most(1), base+1, uint32(n*64-2))
			wantUsed(t, v, used)
			last := base + (n-1)*64
			if n > 1 {
				wantRead(t, v, most(1), base-64, text(64, int((base-64)%1000))+text(1, int(base%1000))+noughts(63))
				wantRead(t, v, most(1), last+1, noughts(62)+text(64, int(last%1000))[63:]+text(64, int((base+n*64)%1000)))
			}
			trim(t, v, most(1), base, uint32(n*64))
			wantUsed(t, v, 2)
			wantRead(t, v, most(1), base-64, text(64, int((base-64)%1000))+noughts(64))
			wantRead(t, v, most(1), last, noughts(64)+text(64, int((base+n*64)%1000)))
			zero(t, v, most(1), base-64, uint32((n+1)*64))
			wantUsed(t, v, 1, used)
			wantRead(t, v, most(2), base, text(64, 7))
		}
	}
}
