package vol_test

import (
	"bytes"
	"math"
	"slices"
	"testing"

	"coaming/api"
	"coaming/store"
	"coaming/vol"
	"coaming/zone"
)

func shape(zones, blocks, block, reserve int) api.Shape {
	return api.Shape{Zones: zones, ZoneBlocks: blocks, Block: block, Reserve: reserve}
}

// small is the smallest shape that may be: all quotas together are 2 at most. In wide they are 12, in pieces of 4 blocks.
func small() api.Shape { return shape(6, 8, 64, 2) }

func wide() api.Shape { return shape(8, 16, 64, 2) }

// tenants are some with these quotas: 1, 2 and so on.
func tenants(quotas ...uint64) []api.Tenant {
	var l []api.Tenant
	for i, quota := range quotas {
		l = append(l, api.Tenant{ID: uint32(i + 1), Key: []byte{byte(i)}, Quota: quota, Size: quota})
	}
	return l
}

// export is one of a tenant that may write; most is the greatest one.
func export(tenant uint32, size uint64) api.Export { return api.Export{Tenant: tenant, Size: size} }

func most(tenant uint32) api.Export { return export(tenant, math.MaxUint64) }

func readOnly(e api.Export) api.Export {
	e.ReadOnly = true
	return e
}

func made(t testing.TB, s api.Shape, l ...api.Tenant) *vol.Vol {
	t.Helper()
	v, errno := vol.New(s, l)
	if errno != api.OK || v == nil {
		t.Fatalf("New(%v, %v): %v, %v", s, l, v, errno)
	}
	return v
}

func recovered(t testing.TB, d *zone.Dev, l ...api.Tenant) *vol.Vol {
	t.Helper()
	v, errno := vol.Recover(d, l)
	if errno != api.OK || v == nil {
		t.Fatalf("Recover with %v: %v, %v", l, v, errno)
	}
	return v
}

func wantAnswer(t testing.TB, what string, got, want uint32) {
	t.Helper()
	if got != want {
		t.Fatalf("%s: %d, want %d", what, got, want)
	}
}

func write(t testing.TB, v *vol.Vol, e api.Export, offset uint64, text string) {
	t.Helper()
	wantAnswer(t, "Write", v.Write(e, offset, []byte(text), false), api.AnsOK)
}

func trim(t testing.TB, v *vol.Vol, e api.Export, offset uint64, length uint32) {
	t.Helper()
	wantAnswer(t, "Trim", v.Trim(e, offset, length, false), api.AnsOK)
}

func zero(t testing.TB, v *vol.Vol, e api.Export, offset uint64, length uint32) {
	t.Helper()
	wantAnswer(t, "Zero", v.Zero(e, offset, length, false), api.AnsOK)
}

// wantRead asks for bytes; what is handed out ends with them.
func wantRead(t testing.TB, v *vol.Vol, e api.Export, offset uint64, want string) {
	t.Helper()
	got, answer := v.Read(e, offset, uint32(len(want)))
	if answer != api.AnsOK || string(got) != want {
		t.Fatalf("Read of %d at %d: %q, %d, want %q", len(want), offset, got, answer, want)
	}
}

func wantNoRead(t testing.TB, v *vol.Vol, e api.Export, offset uint64, length uint32) {
	t.Helper()
	got, answer := v.Read(e, offset, length)
	if answer != api.AnsInval || len(got) != 0 {
		t.Fatalf("Read of %d at %d: %d bytes, %d, want none, %d", length, offset, len(got), answer, api.AnsInval)
	}
}

// wantUsed asks how many blocks tenants 1, 2 and so on have.
func wantUsed(t testing.TB, v *vol.Vol, want ...uint64) {
	t.Helper()
	for i, n := range want {
		if got := v.Used(uint32(i + 1)); got != n {
			t.Fatalf("Used(%d): %d, want %d", i+1, got, n)
		}
	}
}

func noughts(n int) string { return string(make([]byte, n)) }

// text is so many bytes of which none is 00, and no two next to one another are alike.
func text(n, seed int) string {
	out := make([]byte, n)
	for i := range out {
		out[i] = byte((i*7+seed)%251 + 1)
	}
	return string(out)
}

// over is a text with another one at a place of it.
func over(text string, at int, other string) string {
	return text[:at] + other + text[at+len(other):]
}

func sameZone(a, b api.Zone) bool {
	return a.Durable == b.Durable && slices.EqualFunc(a.Blocks, b.Blocks, bytes.Equal)
}

func wantZones(t testing.TB, what string, d *zone.Dev, want []api.Zone) {
	t.Helper()
	got := d.Zones()
	for z := range want {
		if !sameZone(got[z], want[z]) {
			t.Fatalf("%s: zone %d has %d blocks, %d durable, want %d, %d; or they differ", what, z, len(got[z].Blocks), got[z].Durable, len(want[z].Blocks), want[z].Durable)
		}
	}
}

// put puts into a store what volumes would not.
func put(t testing.TB, s *store.Store, l ...api.Put) {
	t.Helper()
	if got := s.Put(l); got != api.OK {
		t.Fatalf("Put of %d: %v", len(l), got)
	}
}

// block is one of a tenant that is filled with a text.
func block(s *store.Store, tenant uint32, number uint64, seed int) api.Put {
	return api.Put{Tenant: tenant, Block: number, Data: []byte(text(s.Dev().Shape().Block, seed))}
}

// numbers are some bytes, in an order that is always the same.
func numbers(seed uint64, count int) []byte {
	out := make([]byte, count)
	for i := range out {
		seed = seed*6364136223846793005 + 1442695040888963407
		out[i] = byte(seed >> 56)
	}
	return out
}

// script is bytes by which steps are picked; noughts, behind its end.
type script struct{ left []byte }

func (s *script) next() int {
	if len(s.left) == 0 {
		return 0
	}
	b := s.left[0]
	s.left = s.left[1:]
	return int(b)
}

func (s *script) below(n int) int { return (s.next()<<8 | s.next()) % n }

func (s *script) pick(of ...uint64) uint64 { return of[s.below(len(of))] }
