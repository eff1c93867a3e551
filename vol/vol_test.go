package vol_test

import (
	"math"
	"slices"
	"testing"

	"coaming/api"
	"coaming/ckpt"
	"coaming/store"
	"coaming/vol"
	"coaming/zone"
)

func TestExample(t *testing.T) {
	v := made(t, wide(), tenants(3)...)
	e := most(1)
	write(t, v, e, 62, "\x07\x08\x09")
	wantUsed(t, v, 2)
	wantRead(t, v, e, 0, noughts(62)+"\x07\x08\x09"+noughts(63))
	trim(t, v, e, 0, 128)
	wantUsed(t, v, 0)
	wantRead(t, v, e, 0, noughts(128))
	wantAnswer(t, "Write", v.Write(export(1, 100), 99, []byte{1, 2}, false), api.AnsNoSpc)
}

func TestNewIsEmpty(t *testing.T) {
	for _, s := range shapes() {
		l := tenants(1, 0, 1)
		v := made(t, s, l...)
		wantZones(t, "New", v.Store().Dev(), store.New(s).Dev().Zones())
		if v.Store().Dev().Shape() != s || v.Store().Seq() != 0 || len(v.Store().Map().All()) != 0 {
			t.Fatal("the store is not new")
		}
		wantUsed(t, v, 0, 0, 0, 0)
		for tenant := range uint32(5) {
			for _, offset := range []uint64{0, 1, 1 << 32, 1 << 63, math.MaxUint64 - 200} {
				wantRead(t, v, most(tenant), offset, noughts(200))
			}
		}
	}
}

// unfit are tenants that do not fit wide's shape, and shapes that tenants of no quota do not fit.
func unfit() map[string]func() (api.Shape, []api.Tenant) {
	same := tenants(1, 1)
	same[1].ID = 1
	return map[string]func() (api.Shape, []api.Tenant){
		"no zones":      func() (api.Shape, []api.Tenant) { return shape(0, 16, 64, 2), nil },
		"few zones":     func() (api.Shape, []api.Tenant) { return shape(5, 16, 64, 2), nil },
		"few blocks":    func() (api.Shape, []api.Tenant) { return shape(8, 7, 64, 2), nil },
		"no power of 2": func() (api.Shape, []api.Tenant) { return shape(8, 16, 96, 2), nil },
		"reserve":       func() (api.Shape, []api.Tenant) { return shape(8, 16, 64, 5), nil },
		"one quota":     func() (api.Shape, []api.Tenant) { return wide(), tenants(13) },
		"quotas":        func() (api.Shape, []api.Tenant) { return wide(), tenants(5, 5, 3) },
		"wrapping":      func() (api.Shape, []api.Tenant) { return wide(), tenants(2, math.MaxUint64) },
		"far above":     func() (api.Shape, []api.Tenant) { return wide(), tenants(math.MaxUint64) },
		"one ID":        func() (api.Shape, []api.Tenant) { return wide(), same },
		"many":          func() (api.Shape, []api.Tenant) { return wide(), tenants(make([]uint64, 65)...) },
		"no checkpoint": func() (api.Shape, []api.Tenant) { return shape(30, 8, 64, 2), tenants(17) },
	}
}

func TestNewOfWhatDoesNotFit(t *testing.T) {
	for name, f := range unfit() {
		if v, errno := vol.New(f()); v != nil || errno != api.ErrArg {
			t.Errorf("%s: %v, %v", name, v, errno)
		}
	}
}

func TestNewOfWhatJustFits(t *testing.T) {
	made(t, wide())
	made(t, wide(), []api.Tenant{}...)
	made(t, wide(), tenants(12)...)
	made(t, wide(), tenants(4, 5, 3)...)
	made(t, wide(), tenants(make([]uint64, 64)...)...)
	made(t, small(), tenants(2)...)
	made(t, shape(30, 8, 64, 2), tenants(16)...)
	made(t, shape(256, 8, 4096, 252), tenants(2)...)
}

// TestRecoverOfWhatDoesNotFit has devices that hold no checkpoint too: what does not fit is told ahead of that, and the device is as it was.
func TestRecoverOfWhatDoesNotFit(t *testing.T) {
	for name, f := range unfit() {
		s, l := f()
		x := store.New(s)
		if x == nil {
			continue
		}
		put(t, x, block(x, 1, 5, 1))
		for _, d := range []*zone.Dev{x.Dev(), zone.New(s)} {
			before := d.Zones()
			if v, errno := vol.Recover(d, l); v != nil || errno != api.ErrArg {
				t.Errorf("%s: %v, %v", name, v, errno)
			}
			wantZones(t, name, d, before)
		}
	}
}

func TestRecoverOfNoCheckpoint(t *testing.T) {
	d := zone.New(wide())
	if v, errno := vol.Recover(d, tenants(12)); v != nil || errno != api.ErrCkptNone {
		t.Fatal(v, errno)
	}
	wantZones(t, "Recover", d, zone.New(wide()).Zones())
}

// TestRecoverOfMoreThanASlotHolds has more blocks than a checkpoint has room for: that is roll's error.
func TestRecoverOfMoreThanASlotHolds(t *testing.T) {
	s := store.New(shape(9, 8, 64, 2))
	for i := range uint64(17) {
		put(t, s, block(s, 1, i, 1))
	}
	before := s.Dev().Zones()
	if v, errno := vol.Recover(s.Dev(), tenants(2)); v != nil || errno != api.ErrCkptLong {
		t.Fatal(v, errno)
	}
	wantZones(t, "Recover", s.Dev(), before)
}

func TestRecoverTellsWhatWas(t *testing.T) {
	l := tenants(4, 5, 3)
	v := made(t, wide(), l...)
	write(t, v, most(1), 60, text(100, 1))
	write(t, v, most(2), 0, text(64, 2))
	write(t, v, most(3), 1<<63, text(1, 3))
	trim(t, v, most(2), 0, 64)
	v.Flush()
	d := v.Store().Dev()
	d.Crash(nil)
	for range 3 {
		w := recovered(t, d, l...)
		if w.Store().Dev() != d {
			t.Fatal("it is on another device")
		}
		wantUsed(t, w, 3, 0, 1, 0)
		wantRead(t, w, most(1), 59, "\x00"+text(100, 1)+"\x00")
		wantRead(t, w, most(2), 0, noughts(64))
		wantRead(t, w, most(3), 1<<63-1, "\x00"+text(1, 3)+"\x00")
		if st, _, errno := ckpt.Load(d); errno != api.OK || st.Seq != w.Store().Seq() || len(st.Places) != 4 {
			t.Fatal("the checkpoint is not that of now:", st, errno)
		}
	}
}

// TestRecoverOfOtherTenants has a device's blocks belong to tenants with other quotas, or to none of the table's.
func TestRecoverOfOtherTenants(t *testing.T) {
	for _, x := range []struct {
		quotas, used, left []uint64
	}{
		{[]uint64{5, 3}, []uint64{5, 2, 0}, []uint64{0, 1, 0}},
		{[]uint64{6, 2}, []uint64{5, 2, 0}, []uint64{1, 0, 0}},
		{[]uint64{4, 1, 2}, []uint64{4, 1, 0}, []uint64{0, 0, 2}},
		{[]uint64{0, 12}, []uint64{0, 2, 0}, []uint64{0, 10, 0}},
		{[]uint64{12}, []uint64{5, 0, 0}, []uint64{7, 0, 0}},
		{nil, []uint64{0, 0, 0}, []uint64{0, 0, 0}},
	} {
		v := made(t, wide(), tenants(5, 7)...)
		write(t, v, most(1), 0, text(5*64, 1))
		write(t, v, most(2), 0, text(2*64, 2))
		w := recovered(t, v.Store().Dev(), tenants(x.quotas...)...)
		wantUsed(t, w, x.used...)
		wantRead(t, w, most(1), 0, text(5*64, 1)+noughts(64))
		wantRead(t, w, most(2), 0, text(2*64, 2)+noughts(64))
		for i, left := range x.left {
			e := most(uint32(i + 1))
			wantAnswer(t, "Write of more than is left", w.Write(e, 64*64, make([]byte, left*64+1), false), api.AnsNoSpc)
			wantAnswer(t, "Write of what is left", w.Write(e, 64*64, make([]byte, left*64), false), api.AnsOK)
		}
	}
}

// TestRecoverOfMoreThanTheQuota has a tenant that has 5 blocks and may have 3: what is above that was not taken, and is given back by none.
func TestRecoverOfMoreThanTheQuota(t *testing.T) {
	above := func() *vol.Vol {
		v := made(t, wide(), tenants(5)...)
		write(t, v, most(1), 0, text(5*64, 1))
		return recovered(t, v.Store().Dev(), tenants(3, 1)...)
	}
	for n, used := range []uint64{3, 2, 1, 0, 3, 3} {
		v := above()
		trim(t, v, most(1), 0, uint32(n*64))
		wantUsed(t, v, used, 0)
		wantRead(t, v, most(1), 0, noughts(n*64)+text(5*64, 1)[n*64:])
		v = above()
		zero(t, v, most(1), 0, uint32(n*64))
		wantUsed(t, v, used, 0)
	}
	v := above()
	// What is somewhere can be written anew, whatever was taken.
	write(t, v, most(1), 0, text(5*64, 9))
	wantUsed(t, v, 3, 0)
	wantRead(t, v, most(1), 0, text(5*64, 9))
}

// TestTenantsOfNoTable may write no block, but may do with what is there what others may.
func TestTenantsOfNoTable(t *testing.T) {
	x := store.New(wide())
	put(t, x, block(x, 7, 0, 1), block(x, 7, 1, 2), block(x, 7, 3, 3))
	v := recovered(t, x.Dev(), tenants(12)...)
	e := most(7)
	wantAnswer(t, "Write", v.Write(e, 128, []byte{1}, false), api.AnsNoSpc)
	wantAnswer(t, "Write", v.Write(e, 127, []byte{1, 2}, false), api.AnsNoSpc)
	wantAnswer(t, "Write", v.Write(e, 128, nil, false), api.AnsOK)
	write(t, v, e, 60, "abcdefgh")
	want := over(text(64, 1)+text(64, 2)+noughts(64)+text(64, 3), 60, "abcdefgh")
	wantRead(t, v, e, 0, want)
	zero(t, v, e, 64, 130)
	want = over(want, 64, noughts(130))
	wantRead(t, v, e, 0, want)
	trim(t, v, e, 0, 256)
	wantRead(t, v, e, 0, noughts(256))
	if v.Used(7) != 0 || len(v.Store().Map().All()) != 0 {
		t.Fatal(v.Used(7), v.Store().Map().All())
	}
	wantAnswer(t, "Write", v.Write(e, 0, []byte{1}, false), api.AnsNoSpc)
}

// kept are how many blocks of zones are there for good, and how many there are.
func kept(v *vol.Vol) (durable, all int) {
	d := v.Store().Dev()
	for z := 2; z < d.Shape().Zones; z++ {
		a, b := d.At(z)
		all, durable = all+a, durable+b
	}
	return durable, all
}

func wantKept(t *testing.T, v *vol.Vol, what string, want bool) {
	t.Helper()
	if durable, all := kept(v); (durable == all) != want {
		t.Fatalf("%s: %d of %d blocks are durable", what, durable, all)
	}
}

func TestFlush(t *testing.T) {
	v := made(t, wide(), tenants(3)...)
	write(t, v, most(1), 0, "a")
	wantKept(t, v, "Write", false)
	v.Flush()
	wantKept(t, v, "Flush", true)
}

// TestForGood has each command make all durable, also what others wrote, if it is answered with AnsOK, though it puts nothing itself.
func TestForGood(t *testing.T) {
	e := most(1)
	commands := map[string]func(v *vol.Vol, good bool) uint32{
		"Write":            func(v *vol.Vol, good bool) uint32 { return v.Write(e, 5, []byte("abc"), good) },
		"Write of nothing": func(v *vol.Vol, good bool) uint32 { return v.Write(e, 5, nil, good) },
		"Trim":             func(v *vol.Vol, good bool) uint32 { return v.Trim(e, 640, 64, good) },
		"Trim of nothing":  func(v *vol.Vol, good bool) uint32 { return v.Trim(e, 0, 0, good) },
		"Zero":             func(v *vol.Vol, good bool) uint32 { return v.Zero(e, 640, 64, good) },
		"Zero of a part":   func(v *vol.Vol, good bool) uint32 { return v.Zero(e, 641, 9, good) },
		"Zero of nothing":  func(v *vol.Vol, good bool) uint32 { return v.Zero(e, 64, 64, good) },
	}
	for name, command := range commands {
		for _, good := range []bool{false, true} {
			v := made(t, wide(), tenants(3, 3)...)
			write(t, v, e, 640, text(64, 1))
			write(t, v, most(2), 0, "other")
			wantAnswer(t, name, command(v, good), api.AnsOK)
			wantKept(t, v, name, good)
		}
	}
	refused := map[string]func(v *vol.Vol) uint32{
		"Write, read-only":  func(v *vol.Vol) uint32 { return v.Write(readOnly(e), 5, []byte("abc"), true) },
		"Write, too long":   func(v *vol.Vol) uint32 { return v.Write(e, 5, make([]byte, 65537), true) },
		"Write, beyond":     func(v *vol.Vol) uint32 { return v.Write(export(1, 6), 5, []byte("abc"), true) },
		"Write, no quota":   func(v *vol.Vol) uint32 { return v.Write(e, 0, make([]byte, 193), true) },
		"Trim, read-only":   func(v *vol.Vol) uint32 { return v.Trim(readOnly(e), 640, 64, true) },
		"Trim, beyond":      func(v *vol.Vol) uint32 { return v.Trim(export(1, 6), 5, 2, true) },
		"Zero, read-only":   func(v *vol.Vol) uint32 { return v.Zero(readOnly(e), 640, 64, true) },
		"Zero, beyond":      func(v *vol.Vol) uint32 { return v.Zero(export(1, 6), 5, 2, true) },
		"Read, as each one": func(v *vol.Vol) uint32 { v.Read(e, 640, 64); return 1 },
	}
	for name, command := range refused {
		v := made(t, wide(), tenants(3, 3)...)
		write(t, v, e, 640, text(64, 1))
		before := v.Store().Dev().Zones()
		if command(v) == api.AnsOK {
			t.Fatal(name)
		}
		wantZones(t, name, v.Store().Dev(), before)
		wantUsed(t, v, 1, 0)
	}
}

// TestClean has zones in which nothing is any more, one behind the other.
func TestClean(t *testing.T) {
	v := made(t, wide(), tenants(2, 1)...)
	if v.Clean() {
		t.Fatal("Clean where no zone is full")
	}
	write(t, v, most(2), 0, "stays")
	full := func() int { return len(v.Store().Seg().List(api.ZoneFull)) }
	for full() < 2 {
		write(t, v, most(1), 0, text(128, 1))
	}
	for n := full(); n > 0; n-- {
		if !v.Clean() {
			t.Fatal("Clean: false")
		}
	}
	if full() != 0 || v.Clean() {
		t.Fatal("full zones are left:", full())
	}
	wantUsed(t, v, 2, 1)
	wantRead(t, v, most(1), 0, text(128, 1))
	wantRead(t, v, most(2), 0, "stays\x00")
}

func TestStore(t *testing.T) {
	v := made(t, wide(), tenants(2)...)
	s := v.Store()
	write(t, v, most(1), 64, "a")
	if s == nil || s != v.Store() || s.Seq() != 1 {
		t.Fatal("the store is another one, or nothing was put")
	}
	if a, is := s.Map().Get(1, 1); !is || a != (api.Addr{Zone: 2, Block: 1}) {
		t.Fatal(a, is)
	}
	if b, is := s.Get(1, 1); !is || string(b) != "a"+noughts(63) {
		t.Fatal(b, is)
	}
}

// TestUsedOfAny has no tenant but those of the table have anything.
func TestUsedOfAny(t *testing.T) {
	l := []api.Tenant{{ID: 0, Quota: 1}, {ID: math.MaxUint32, Quota: 2}, {ID: 1 << 16, Quota: 3}}
	v := made(t, wide(), l...)
	for i, x := range l {
		write(t, v, most(x.ID), 0, text(64*(i+1), i))
		wantAnswer(t, "Write", v.Write(most(x.ID), 6400, []byte{1}, false), api.AnsNoSpc)
	}
	for i, x := range l {
		if v.Used(x.ID) != uint64(i+1) {
			t.Fatal(x.ID, v.Used(x.ID))
		}
		wantRead(t, v, most(x.ID), 0, text(64*(i+1), i)+noughts(64))
	}
	for _, id := range []uint32{1, 2, 1<<16 + 1, math.MaxUint32 - 1, 1 << 31} {
		if v.Used(id) != 0 {
			t.Fatal(id, v.Used(id))
		}
	}
}

// TestObjectsAreApart has volumes on devices of their own.
func TestObjectsAreApart(t *testing.T) {
	a, b := made(t, wide(), tenants(2)...), made(t, wide(), tenants(2)...)
	write(t, a, most(1), 0, text(128, 1))
	wantUsed(t, b, 0)
	wantRead(t, b, most(1), 0, noughts(128))
	wantZones(t, "the other one", b.Store().Dev(), store.New(wide()).Dev().Zones())
	write(t, b, most(1), 64, text(128, 2))
	wantRead(t, a, most(1), 0, text(128, 1)+noughts(64))
}

// TestTenantsAreNotKept changes the list that was handed in.
func TestTenantsAreNotKept(t *testing.T) {
	l := tenants(2, 1)
	before := slices.Clone(l)
	v := made(t, wide(), append(slices.Clip(l), api.Tenant{ID: 9, Quota: 12})[:2]...)
	w := recovered(t, store.New(wide()).Dev(), l...)
	for i := range l {
		if l[i].ID != before[i].ID || l[i].Quota != before[i].Quota || string(l[i].Key) != string(before[i].Key) {
			t.Fatal("the list was changed:", l)
		}
		l[i] = api.Tenant{ID: 5, Quota: 12}
	}
	for _, x := range []*vol.Vol{v, w} {
		wantAnswer(t, "Write", x.Write(most(5), 0, []byte{1}, false), api.AnsNoSpc)
		wantAnswer(t, "Write", x.Write(most(9), 0, []byte{1}, false), api.AnsNoSpc)
		wantAnswer(t, "Write", x.Write(most(1), 0, make([]byte, 129), false), api.AnsNoSpc)
		write(t, x, most(1), 0, text(128, 1))
		write(t, x, most(2), 0, text(64, 1))
	}
}
