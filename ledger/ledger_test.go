package ledger_test

import (
	"math"
	"math/big"
	"runtime"
	"slices"
	"testing"

	"coaming/api"
	"coaming/ledger"
	"coaming/zone"
)

const most = math.MaxUint64

// ids are tenants at the edges of what may be handed in, some of them with the low bits of others.
var ids = []uint32{0, 1, 2, 7, 256, 257, 1 << 16, 1<<16 + 1, 1 << 31, 1<<31 + 1, math.MaxUint32 - 1, math.MaxUint32}

// counts are numbers of blocks at such edges.
var counts = []uint64{0, 1, 2, 3, 4, 5, 6, 7, 1<<32 - 1, 1 << 32, 1<<32 + 3, 1<<63 - 1, 1 << 63, 1<<63 + 1, most - 3, most - 2, most - 1, most}

func tenant(id uint32, quota uint64) api.Tenant { return api.Tenant{ID: id, Quota: quota} }

// numbered are tenants from 1 on that have these quotas.
func numbered(quotas ...uint64) []api.Tenant {
	var out []api.Tenant
	for i, quota := range quotas {
		out = append(out, tenant(uint32(i+1), quota))
	}
	return out
}

// account is what the document says of one tenant, told by its words alone.
type account struct{ quota, used *big.Int }

// model is what it says of all of them; its sums are not modulo 2^64.
type model map[uint32]account

func number(n uint64) *big.Int { return new(big.Int).SetUint64(n) }

func modelOf(l []api.Tenant) model {
	m := model{}
	for _, t := range l {
		m[t.ID] = account{number(t.Quota), number(0)}
	}
	return m
}

func (m model) of(id uint32) account {
	if a, is := m[id]; is {
		return a
	}
	return account{number(0), number(0)}
}

func (m model) take(id uint32, n uint64) bool {
	a := m.of(id)
	sum := new(big.Int).Add(a.used, number(n))
	if sum.Cmp(a.quota) > 0 {
		return false
	}
	a.used.Set(sum)
	return true
}

func (m model) give(id uint32, n uint64) bool {
	a := m.of(id)
	if a.used.Cmp(number(n)) < 0 {
		return false
	}
	a.used.Sub(a.used, number(n))
	return true
}

func (m model) all() []api.Used {
	var out []api.Used
	for id, a := range m {
		out = append(out, api.Used{Tenant: id, Count: a.used.Uint64()})
	}
	slices.SortFunc(out, func(a, b api.Used) int {
		if a.Tenant < b.Tenant {
			return -1
		}
		return 1
	})
	return out
}

// want asks for all that a ledger tells without being changed.
func want(t *testing.T, what string, x *ledger.Ledger, m model) {
	t.Helper()
	asked := slices.Clone(ids)
	for id := range m {
		asked = append(asked, id, id+1, id-1, id+1<<16, id+1<<31)
	}
	for _, id := range asked {
		a := m.of(id)
		if got := x.Used(id); number(got).Cmp(a.used) != 0 {
			t.Fatalf("%s: Used(%d): %d, want %v", what, id, got, a.used)
		}
		left := new(big.Int).Sub(a.quota, a.used)
		if got := x.Left(id); number(got).Cmp(left) != 0 {
			t.Fatalf("%s: Left(%d): %d, want %v", what, id, got, left)
		}
	}
	if got := x.All(); !slices.Equal(got, m.all()) {
		t.Fatalf("%s: All: %v, want %v", what, got, m.all())
	}
}

func wantTake(t *testing.T, x *ledger.Ledger, m model, id uint32, n uint64) {
	t.Helper()
	is := m.take(id, n)
	if got := x.Take(id, n); got != is {
		t.Fatalf("Take(%d, %d): %v, want %v", id, n, got, is)
	}
	want(t, "Take", x, m)
}

func wantGive(t *testing.T, x *ledger.Ledger, m model, id uint32, n uint64) {
	t.Helper()
	is := m.give(id, n)
	if got := x.Give(id, n); got != is {
		t.Fatalf("Give(%d, %d): %v, want %v", id, n, got, is)
	}
	want(t, "Give", x, m)
}

// made is a ledger of tenants, and what the document says of it.
func made(t *testing.T, l ...api.Tenant) (*ledger.Ledger, model) {
	t.Helper()
	x, m := ledger.New(l), modelOf(l)
	if x == nil {
		t.Fatalf("New(%v): nil", l)
	}
	want(t, "New", x, m)
	return x, m
}

func TestExample(t *testing.T) {
	x := ledger.New([]api.Tenant{tenant(1, 5)})
	if !x.Take(1, 3) || x.Take(1, 3) || !x.Give(1, 1) {
		t.Error("tenant 1")
	}
	if left := x.Left(1); left != 3 {
		t.Error(left)
	}
	if x.Take(2, 1) || !x.Take(2, 0) {
		t.Error("tenant 2")
	}
}

func TestNewOfNobody(t *testing.T) {
	for _, l := range [][]api.Tenant{nil, {}} {
		x, m := made(t, l...)
		for _, id := range ids {
			wantTake(t, x, m, id, 0)
			wantTake(t, x, m, id, 1)
			wantGive(t, x, m, id, 0)
			wantGive(t, x, m, id, 1)
		}
		if len(x.All()) != 0 {
			t.Error(x.All())
		}
	}
}

func TestNewTakesTheLastOfAnID(t *testing.T) {
	for _, l := range [][]api.Tenant{
		{tenant(1, 5), tenant(1, 9)},
		{tenant(1, 9), tenant(1, 5)},
		{tenant(1, 9), tenant(1, 0)},
		{tenant(1, 0), tenant(1, most)},
		{tenant(1, 5), tenant(2, 6), tenant(1, 7), tenant(2, 8), tenant(3, 9), tenant(1, 4)},
	} {
		x, m := made(t, l...)
		last := l[len(l)-1]
		if left := x.Left(last.ID); left != last.Quota {
			t.Errorf("New(%v): Left %d", l, left)
		}
		wantTake(t, x, m, last.ID, last.Quota)
		wantTake(t, x, m, last.ID, 1)
	}
}

func TestNewOfMoreTenantsThanFit(t *testing.T) {
	var l []api.Tenant
	for i := range uint32(300) {
		l = append(l, tenant(i*0x9e3779b1, uint64(i)<<56))
	}
	x, m := made(t, l...)
	for _, one := range l {
		x.Take(one.ID, one.Quota)
		m.take(one.ID, one.Quota)
	}
	want(t, "all taken", x, m)
	if all := x.All(); len(all) != 300 {
		t.Error(len(all))
	}
}

func TestNewLooksAtQuotasAlone(t *testing.T) {
	x := ledger.New([]api.Tenant{{ID: 3, Key: []byte("k"), Quota: 2, Size: 9, Gone: []uint32{3}}})
	if x.Left(3) != 2 || !x.Take(3, 2) || x.Take(3, 1) {
		t.Error("tenant 3")
	}
}

func TestNewReadsNothingBehindTheList(t *testing.T) {
	l := []api.Tenant{tenant(1, 5), tenant(1, 6), tenant(2, 7)}
	x := ledger.New(l[:1])
	want(t, "New", x, modelOf(l[:1]))
	if !ledger.Fits(shape(8, 16, 64, 2), l[:1]) {
		t.Error("Fits")
	}
}

func TestTakeAndGiveOfEveryNumber(t *testing.T) {
	for _, quota := range counts {
		for _, used := range counts {
			for _, n := range counts {
				l := []api.Tenant{tenant(4, 8), tenant(1, quota), tenant(3, most)}
				x, m := made(t, l...)
				wantTake(t, x, m, 1, used)
				wantTake(t, x, m, 1, n)
				wantGive(t, x, m, 1, n)
				wantGive(t, x, m, 1, used)
			}
		}
	}
}

func TestTakeUpToTheQuota(t *testing.T) {
	x, m := made(t, tenant(1, 5))
	for range 7 {
		wantTake(t, x, m, 1, 1)
	}
	if x.Used(1) != 5 || x.Left(1) != 0 {
		t.Error(x.Used(1), x.Left(1))
	}
	wantTake(t, x, m, 1, 0)
	wantTake(t, x, m, 1, most)
	for range 7 {
		wantGive(t, x, m, 1, 1)
	}
	wantGive(t, x, m, 1, 0)
	wantTake(t, x, m, 1, 5)
	wantGive(t, x, m, 1, 6)
	wantGive(t, x, m, 1, 5)
}

func TestSumsDoNotWrap(t *testing.T) {
	x, m := made(t, tenant(1, 5), tenant(2, most))
	wantTake(t, x, m, 1, 3)
	for _, n := range []uint64{most, most - 1, most - 2, most - 3, 1 << 63} {
		wantTake(t, x, m, 1, n)
		wantGive(t, x, m, 1, n)
	}
	wantTake(t, x, m, 2, most-1)
	wantTake(t, x, m, 2, 2)
	wantTake(t, x, m, 2, most)
	wantTake(t, x, m, 2, 1)
	wantTake(t, x, m, 2, 1)
	wantGive(t, x, m, 2, most)
	wantGive(t, x, m, 2, 1)
}

func TestThoseOfNoQuota(t *testing.T) {
	for _, l := range [][]api.Tenant{{tenant(9, 5)}, {tenant(9, 5), tenant(7, 0)}} {
		x, m := made(t, l...)
		for _, n := range counts {
			wantTake(t, x, m, 7, n)
			wantGive(t, x, m, 7, n)
		}
		if all := x.All(); len(all) != len(l) {
			t.Errorf("All of %v: %v", l, all)
		}
	}
}

func TestThoseOfNoQuotaAreNotKept(t *testing.T) {
	x, m := made(t, tenant(1, 5))
	var before, after runtime.MemStats
	runtime.ReadMemStats(&before)
	for id := range uint32(1 << 18) {
		x.Take(id+2, 0)
		x.Give(id+2, 0)
	}
	runtime.ReadMemStats(&after)
	// A map of so many would take millions of bytes.
	if taken := after.TotalAlloc - before.TotalAlloc; taken > 1<<20 {
		t.Errorf("%d bytes for tenants that have nothing", taken)
	}
	want(t, "those of no quota", x, m)
}

func TestAllIsOfEachOnceAndRising(t *testing.T) {
	l := []api.Tenant{tenant(math.MaxUint32, 9), tenant(2, 9), tenant(0, 9), tenant(1<<31, 9), tenant(2, 8), tenant(1, 0)}
	x := ledger.New(l)
	x.Take(2, 8)
	x.Take(1<<31, 1)
	x.Take(0, 3)
	x.Give(0, 3)
	x.Take(5, 0)
	wanted := []api.Used{{Tenant: 0}, {Tenant: 1}, {Tenant: 2, Count: 8}, {Tenant: 1 << 31, Count: 1}, {Tenant: math.MaxUint32}}
	for range 20 {
		if all := x.All(); !slices.Equal(all, wanted) {
			t.Fatal(all)
		}
	}
}

func TestTenantsAreApart(t *testing.T) {
	var l []api.Tenant
	for i, id := range ids {
		l = append(l, tenant(id, uint64(i+1)))
	}
	x, m := made(t, l...)
	for i, id := range ids {
		wantTake(t, x, m, id, uint64(i+1))
		wantTake(t, x, m, id, 1)
	}
	for i, id := range ids {
		wantGive(t, x, m, id, uint64(i+2))
		wantGive(t, x, m, id, uint64(i+1))
	}
}

func TestLedgersAreApart(t *testing.T) {
	l := numbered(5, 6)
	a, ma := made(t, l...)
	b, mb := made(t, l...)
	wantTake(t, a, ma, 1, 4)
	want(t, "another one", b, mb)
	wantTake(t, b, mb, 1, 5)
	wantGive(t, b, mb, 1, 1)
	want(t, "the first one", a, ma)
	made(t, l...)
}

// copied are tenants that share no memory with l.
func copied(l []api.Tenant) []api.Tenant {
	out := slices.Clone(l)
	for i := range out {
		out[i].Key, out[i].Gone = slices.Clone(out[i].Key), slices.Clone(out[i].Gone)
	}
	return out
}

func same(a, b api.Tenant) bool {
	return a.ID == b.ID && a.Quota == b.Quota && a.Size == b.Size && slices.Equal(a.Key, b.Key) && slices.Equal(a.Gone, b.Gone)
}

func TestListsAreNeitherChangedNorKept(t *testing.T) {
	full := []api.Tenant{
		{ID: 9, Key: []byte("ab"), Quota: 5, Size: 6, Gone: []uint32{2, 1}},
		{ID: 3, Key: []byte("c"), Quota: 4, Size: 1},
		{ID: 9, Quota: 3},
		{ID: 1, Quota: 77},
	}
	before, l := copied(full), full[:3]
	x, m := ledger.New(l), modelOf(l)
	ledger.Fits(shape(8, 16, 64, 2), l)
	wantTake(t, x, m, 9, 2)
	if !slices.EqualFunc(full, before, same) {
		t.Fatal(full)
	}
	for i := range full {
		full[i] = tenant(uint32(i+20), 0)
	}
	want(t, "the list is another one", x, m)
	wantTake(t, x, m, 9, 1)
	wantTake(t, x, m, 9, 1)
}

func TestAllIsNewMemory(t *testing.T) {
	x, m := made(t, tenant(2, 5), tenant(1, 5))
	wantTake(t, x, m, 2, 3)
	a, b := x.All(), x.All()
	before := slices.Clone(b)
	a = a[:cap(a)]
	for i := range a {
		a[i] = api.Used{Tenant: 8, Count: 9}
	}
	_ = append(a, api.Used{Tenant: 7})
	if !slices.Equal(b, before) {
		t.Error(b)
	}
	want(t, "lists written to", x, m)
	x.Take(1, 1)
	x.Give(2, 3)
	if !slices.Equal(b, before) {
		t.Error("a list changes with its ledger", b)
	}
}

// stepper draws numbers of its own, the same ones each time.
type stepper uint64

func (s *stepper) below(n int) int {
	*s = *s*6364136223846793005 + 1442695040888963407
	return int(uint64(*s) >> 33 % uint64(n))
}

func TestManySteps(t *testing.T) {
	for seed := range 40 {
		s := stepper(seed)
		var l []api.Tenant
		for range s.below(8) {
			l = append(l, tenant(ids[s.below(len(ids))], counts[s.below(len(counts))]))
		}
		x, m := made(t, l...)
		for range 400 {
			id, n := ids[s.below(len(ids))], counts[s.below(len(counts))]
			if s.below(2) == 0 {
				wantTake(t, x, m, id, n)
			} else {
				wantGive(t, x, m, id, n)
			}
		}
	}
}

func FuzzSteps(f *testing.F) {
	f.Add([]byte{1, 5}, []byte{2, 3, 2, 3, 3, 1})
	f.Add([]byte{2, 17, 1, 12, 2, 9}, []byte{4, 17, 4, 17, 5, 17, 8, 0})
	f.Add([]byte{}, []byte{0, 0, 1, 0, 2, 1})
	f.Fuzz(func(t *testing.T, who, calls []byte) {
		var l []api.Tenant
		for ; len(who) > 1; who = who[2:] {
			l = append(l, tenant(ids[int(who[0])%len(ids)], counts[int(who[1])%len(counts)]))
		}
		x, m := made(t, l...)
		for ; len(calls) > 1; calls = calls[2:] {
			id, n := ids[int(calls[0]/2)%len(ids)], counts[int(calls[1])%len(counts)]
			if calls[0]%2 == 0 {
				wantTake(t, x, m, id, n)
			} else {
				wantGive(t, x, m, id, n)
			}
		}
	})
}

func shape(zones, blocks, block, reserve int) api.Shape {
	return api.Shape{Zones: zones, ZoneBlocks: blocks, Block: block, Reserve: reserve}
}

func wantFits(t *testing.T, s api.Shape, l []api.Tenant, is bool) {
	t.Helper()
	if got := ledger.Fits(s, l); got != is {
		t.Fatalf("Fits(%v, %v): %v, want %v", s, l, got, is)
	}
}

// modelFits is what the document says, by its words alone.
func modelFits(s api.Shape, l []api.Tenant) bool {
	if !zone.Right(s) || len(l) > 64 {
		return false
	}
	sum := number(0)
	for i, t := range l {
		if slices.ContainsFunc(l[:i], func(other api.Tenant) bool { return other.ID == t.ID }) {
			return false
		}
		sum.Add(sum, number(t.Quota))
	}
	quarter := (s.ZoneBlocks - s.ZoneBlocks%4) / 4
	inLog := int64(s.Zones-3-s.Reserve) * int64(quarter)
	places := 0
	for (places+1)*16+27 <= s.Block {
		places++
	}
	inCheckpoint := int64(s.ZoneBlocks) * int64(places)
	return sum.Cmp(big.NewInt(inLog)) <= 0 && sum.Cmp(big.NewInt(inCheckpoint)) <= 0
}

// rooms are shapes, and the greatest sum that fits each, worked out by hand.
var rooms = []struct {
	s    api.Shape
	most uint64
}{
	{shape(8, 16, 64, 2), 12},
	{shape(6, 8, 64, 2), 2},
	{shape(6, 9, 64, 2), 2},
	{shape(6, 11, 64, 2), 2},
	{shape(6, 12, 64, 2), 3},
	// A quarter is rounded ahead of being taken so many times: 3 times 2, not 3 times 2.75.
	{shape(8, 11, 64, 2), 6},
	{shape(8, 8, 4096, 3), 4},
	{shape(8, 8, 4096, 4), 2},
	// A checkpoint's blocks of 64 bytes have room for 2 places each: 9 quarters of a zone are more than that.
	{shape(12, 16, 64, 2), 28},
	{shape(13, 16, 64, 2), 32},
	{shape(14, 16, 64, 2), 32},
	{shape(14, 16, 128, 2), 36},
	{shape(14, 16, 64, 3), 32},
	{shape(14, 16, 64, 4), 28},
	{shape(256, 8, 64, 2), 16},
	{shape(256, 15, 64, 2), 30},
	{shape(256, 4096, 64, 2), 8192},
	{shape(256, 4096, 128, 2), 24576},
	{shape(256, 4096, 1024, 2), 253952},
	{shape(256, 4096, 2048, 2), 257024},
	{shape(256, 4096, 4096, 2), 257024},
	{shape(256, 4096, 4096, 251), 2048},
	{shape(256, 4096, 64, 252), 1024},
}

func TestFitsUpToTheRoom(t *testing.T) {
	for _, x := range rooms {
		wantFits(t, x.s, nil, true)
		wantFits(t, x.s, []api.Tenant{}, true)
		for _, less := range []uint64{0, 1, x.most / 2, x.most} {
			wantFits(t, x.s, numbered(less), true)
			wantFits(t, x.s, numbered(x.most-less, less), true)
			wantFits(t, x.s, numbered(x.most-less, less, 1), false)
			wantFits(t, x.s, numbered(1, less, 0, x.most-less), false)
		}
		for _, above := range []uint64{1, 2, 1 << 32, 1 << 63, most - x.most} {
			wantFits(t, x.s, numbered(x.most+above), false)
			wantFits(t, x.s, numbered(above, x.most), false)
			wantFits(t, x.s, numbered(0, x.most, 0, above), false)
		}
	}
}

func TestFitsOfManyShapes(t *testing.T) {
	for _, zones := range []int{6, 7, 8, 12, 13, 14, 15, 100, 255, 256} {
		for _, blocks := range []int{8, 9, 10, 11, 12, 13, 63, 64, 4093, 4094, 4095, 4096} {
			for block := 64; block <= 4096; block *= 2 {
				for _, reserve := range []int{2, 3, zones / 2, zones - 5, zones - 4} {
					s := shape(zones, blocks, block, reserve)
					for _, quota := range []int{(zones - 3 - reserve) * blocks / 4, (zones - 3 - reserve) * (blocks / 4), blocks * ((block - 27) / 16), blocks * (block / 16)} {
						for _, more := range []int{-1, 0, 1} {
							l := numbered(1, uint64(max(0, quota-1+more)))
							wantFits(t, s, l, modelFits(s, l))
						}
					}
				}
			}
		}
	}
}

func TestFitsOfWhatIsNotRight(t *testing.T) {
	numbers := []int{math.MinInt, -1 << 32, -8, -1, 0, 1, 2, 3, 4, 5, 6, 7, 8, 9, 63, 64, 65, 128, 252, 253, 256, 257, 4096, 4097, 8192, 1 << 32, 1<<32 + 64, math.MaxInt}
	for _, zones := range numbers {
		for _, blocks := range numbers {
			for _, block := range numbers {
				for _, reserve := range numbers {
					s := shape(zones, blocks, block, reserve)
					wantFits(t, s, nil, zone.Right(s))
					wantFits(t, s, numbered(0), zone.Right(s))
				}
			}
		}
	}
}

func TestFitsOf64Tenants(t *testing.T) {
	s := shape(256, 4096, 4096, 2)
	l := numbered(make([]uint64, 66)...)
	for n := range 65 {
		wantFits(t, s, l[:n], true)
	}
	wantFits(t, s, l[:65], false)
	wantFits(t, s, l, false)
	wantFits(t, s, make([]api.Tenant, 65), false)
	wantFits(t, s, make([]api.Tenant, 1<<16), false)
	// 257024 is 64 times 4016.
	for i := range 64 {
		l[i].Quota = 4016
	}
	wantFits(t, s, l[:64], true)
	wantFits(t, s, l[:65], false)
	for i := range 64 {
		l[i].Quota++
		wantFits(t, s, l[:64], false)
		l[i].Quota--
	}
}

func TestFitsOfOneIDTwice(t *testing.T) {
	s := shape(256, 4096, 4096, 2)
	for n := 2; n <= 64; n++ {
		l := numbered(make([]uint64, n)...)
		for i := 1; i < n; i++ {
			before := l[i]
			l[i] = api.Tenant{ID: l[i/2].ID, Key: []byte("k"), Quota: 1, Size: 1}
			wantFits(t, s, l, false)
			l[i] = before
		}
		wantFits(t, s, l, true)
	}
	wantFits(t, s, []api.Tenant{tenant(0, 0), tenant(0, 0)}, false)
	wantFits(t, s, []api.Tenant{tenant(1, 3), tenant(2, 3), tenant(1, 3)}, false)
}

func TestFitsOfAnyIDs(t *testing.T) {
	var l []api.Tenant
	for _, id := range ids {
		l = append(l, tenant(id, 1))
	}
	wantFits(t, shape(8, 16, 64, 2), l, true)
	for i := range 32 {
		wantFits(t, shape(8, 16, 64, 2), []api.Tenant{tenant(5, 1), tenant(5^1<<i, 1)}, true)
	}
}

func TestFitsLooksAtIDsAndQuotasAlone(t *testing.T) {
	s := shape(8, 16, 64, 2)
	wantFits(t, s, []api.Tenant{{ID: 1, Key: nil, Quota: 12, Size: most, Gone: []uint32{1, 1}}, {ID: 2, Size: most}}, true)
	wantFits(t, s, []api.Tenant{{ID: 1, Key: []byte("k"), Quota: 13}}, false)
}

func TestFitsDoesNotWrap(t *testing.T) {
	for _, x := range rooms {
		for _, l := range [][]uint64{
			{most, 1}, {1, most}, {most, 2}, {most, most}, {most, 1, x.most},
			{1 << 63, 1 << 63}, {1 << 63, 1 << 63, 1}, {1, 1<<63 - 1, 1 << 63},
			{1 << 62, 1 << 62, 1 << 62, 1 << 62}, {most - 1, 1, 1, 1},
			slices.Repeat([]uint64{1 << 58}, 64),
		} {
			wantFits(t, x.s, numbered(l...), false)
		}
	}
}

func FuzzFits(f *testing.F) {
	f.Add(8, 16, 6, 2, []byte{1, 2, 2, 3}, uint64(12))
	f.Add(256, 4096, 6, 2, []byte{1, 0, 2, 0, 1, 0}, uint64(8192))
	f.Add(14, 11, 12, 3, []byte{}, uint64(most))
	f.Fuzz(func(t *testing.T, zones, blocks, power, reserve int, who []byte, rest uint64) {
		s := shape(zones, blocks, 1<<(power&15), reserve)
		l := []api.Tenant{tenant(1000, rest)}
		for ; len(who) > 1; who = who[2:] {
			l = append(l, tenant(uint32(who[0]), counts[int(who[1])%len(counts)]))
		}
		wantFits(t, s, l, modelFits(s, l))
		wantFits(t, s, l[:1], modelFits(s, l[:1]))
	})
}
