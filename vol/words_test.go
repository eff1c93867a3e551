package vol_test

import (
	"bytes"
	"math/big"
	"slices"
	"testing"

	"coaming/api"
	"coaming/clean"
	"coaming/roll"
	"coaming/store"
	"coaming/vol"
	"coaming/zone"
)

// What follows is the chapter by its words alone, on a store of its own: numbers have no end, and each block is asked for by itself.

type words struct {
	s     *store.Store
	quota map[uint32]uint64
	used  map[uint32]uint64
	// Of how it came: what was answered, and how.
	sum *summary
}

// summary is how often commands were done, by what they answered, and how many lists had several pieces.
type summary struct {
	answers [4]map[uint32]int
	pieces  int
	cleaned int
}

func (x *summary) count(kind int, answer uint32) {
	if x.answers[kind] == nil {
		x.answers[kind] = map[uint32]int{}
	}
	x.answers[kind][answer]++
}

func newWords(s *store.Store, l []api.Tenant, sum *summary) *words {
	w := &words{s, map[uint32]uint64{}, map[uint32]uint64{}, sum}
	for _, t := range l {
		w.quota[t.ID] = t.Quota
		w.used[t.ID] = min(s.Map().Count(t.ID), t.Quota)
	}
	return w
}

func whole(n uint64) *big.Int { return new(big.Int).SetUint64(n) }

func plus(a, b *big.Int) *big.Int { return new(big.Int).Add(a, b) }

// lies says whether a range lies in an export.
func lies(e api.Export, offset, length uint64) bool {
	return plus(whole(offset), whole(length)).Cmp(whole(e.Size)) <= 0
}

// begin is where a block begins.
func (w *words) begin(block uint64) *big.Int {
	return new(big.Int).Mul(whole(block), big.NewInt(int64(w.s.Dev().Shape().Block)))
}

func (w *words) end(block uint64) *big.Int {
	return plus(w.begin(block), big.NewInt(int64(w.s.Dev().Shape().Block)))
}

// touches says whether a byte of a block is in a range, inside whether all are.
func (w *words) touches(block, offset, length uint64) bool {
	behind := plus(whole(offset), whole(length))
	return length > 0 && w.begin(block).Cmp(behind) < 0 && w.end(block).Cmp(whole(offset)) > 0
}

func (w *words) inside(block, offset, length uint64) bool {
	behind := plus(whole(offset), whole(length))
	return w.begin(block).Cmp(whole(offset)) >= 0 && w.end(block).Cmp(behind) <= 0
}

// touched are the blocks that a short range touches.
func (w *words) touched(offset, length uint64) []uint64 {
	var l []uint64
	for k := offset / uint64(w.s.Dev().Shape().Block); w.touches(k, offset, length); k++ {
		l = append(l, k)
	}
	return l
}

// there are the blocks of a tenant that are somewhere and that a range touches.
func (w *words) there(tenant uint32, offset, length uint64) []uint64 {
	var l []uint64
	for _, p := range w.s.Map().All() {
		if p.Tenant == tenant && w.touches(p.Block, offset, length) {
			l = append(l, p.Block)
		}
	}
	return l
}

// data is what a block is.
func (w *words) data(tenant uint32, block uint64) []byte {
	if b, is := w.s.Get(tenant, block); is {
		return b
	}
	return make([]byte, w.s.Dev().Shape().Block)
}

// bytes is which bytes of a block are in a range.
func (w *words) bytes(block, offset, length uint64) (int, int) {
	size := w.s.Dev().Shape().Block
	within := func(at *big.Int) int {
		at.Sub(at, w.begin(block))
		if at.Sign() < 0 {
			return 0
		}
		if at.Cmp(big.NewInt(int64(size))) > 0 {
			return size
		}
		return int(at.Int64())
	}
	return within(whole(offset)), within(plus(whole(offset), whole(length)))
}

// put puts a list, and says whether that is no error.
func (w *words) put(l []api.Put) bool {
	if len(l) > w.s.Dev().Shape().ZoneBlocks/4 {
		w.sum.pieces++
	}
	for len(l) > 0 {
		w.sum.cleaned += clean.Run(w.s)
		n := min(len(l), w.s.Dev().Shape().ZoneBlocks/4)
		if w.s.Put(l[:n]) != api.OK {
			return false
		}
		l = l[n:]
	}
	return true
}

func (w *words) read(e api.Export, offset uint64, length uint32) ([]byte, uint32) {
	if length > 65536 || !lies(e, offset, uint64(length)) {
		return nil, 22
	}
	var out []byte
	for _, k := range w.touched(offset, uint64(length)) {
		from, to := w.bytes(k, offset, uint64(length))
		out = append(out, w.data(e.Tenant, k)[from:to]...)
	}
	return out, 0
}

func (w *words) write(e api.Export, offset uint64, data []byte, good bool) uint32 {
	length := uint64(len(data))
	switch {
	case e.ReadOnly:
		return 1
	case length > 65536:
		return 22
	case !lies(e, offset, length):
		return 28
	}
	n := uint64(0)
	for _, k := range w.touched(offset, length) {
		if _, is := w.s.Get(e.Tenant, k); !is {
			n++
		}
	}
	if w.used[e.Tenant]+n > w.quota[e.Tenant] {
		return 28
	}
	var l []api.Put
	for _, k := range w.touched(offset, length) {
		b := w.data(e.Tenant, k)
		from, to := w.bytes(k, offset, length)
		for i := from; i < to; i++ {
			b[i], data = data[0], data[1:]
		}
		l = append(l, api.Put{Tenant: e.Tenant, Block: k, Data: b})
	}
	w.used[e.Tenant] += n
	return w.answer(l, e.Tenant, 0, good)
}

func (w *words) trim(e api.Export, offset uint64, length uint32, good bool) uint32 {
	if e.ReadOnly {
		return 1
	}
	if !lies(e, offset, uint64(length)) {
		return 22
	}
	var l []api.Put
	for _, k := range w.there(e.Tenant, offset, uint64(length)) {
		if w.inside(k, offset, uint64(length)) {
			l = append(l, api.Put{Tenant: e.Tenant, Block: k, Drop: true})
		}
	}
	return w.answer(l, e.Tenant, uint64(len(l)), good)
}

func (w *words) zero(e api.Export, offset uint64, length uint32, good bool) uint32 {
	if e.ReadOnly {
		return 1
	}
	if !lies(e, offset, uint64(length)) {
		return 28
	}
	var l []api.Put
	drops := uint64(0)
	for _, k := range w.there(e.Tenant, offset, uint64(length)) {
		if w.inside(k, offset, uint64(length)) {
			l = append(l, api.Put{Tenant: e.Tenant, Block: k, Drop: true})
			drops++
			continue
		}
		b := w.data(e.Tenant, k)
		from, to := w.bytes(k, offset, uint64(length))
		for i := from; i < to; i++ {
			b[i] = 0
		}
		l = append(l, api.Put{Tenant: e.Tenant, Block: k, Data: b})
	}
	return w.answer(l, e.Tenant, drops, good)
}

// answer puts what a command puts, gives back what it drops, and flushes, if that is to be.
func (w *words) answer(l []api.Put, tenant uint32, drops uint64, good bool) uint32 {
	if !w.put(l) {
		return 5
	}
	if w.used[tenant] >= drops {
		w.used[tenant] -= drops
	}
	if good {
		w.s.Flush()
	}
	return 0
}

// twins are volumes, and the same by the words, each on a device of its own.
type twins struct {
	v *vol.Vol
	w *words
	l []api.Tenant
}

func (x *twins) want(t *testing.T, what string, kind int, got, want uint32) {
	t.Helper()
	x.w.sum.count(kind, want)
	wantAnswer(t, what, got, want)
	wantZones(t, what, x.v.Store().Dev(), x.w.s.Dev().Zones())
	for tenant := range uint32(6) {
		if got := x.v.Used(tenant); got != x.w.used[tenant] {
			t.Fatalf("%s: Used(%d): %d, want %d", what, tenant, got, x.w.used[tenant])
		}
	}
	// Zones' states hang on what was put, and on nothing else.
	for z := range x.v.Store().Dev().Shape().Zones {
		if got, want := x.v.Store().Seg().State(z), x.w.s.Seg().State(z); got != want {
			t.Fatalf("%s: zone %d has the state %d, want %d", what, z, got, want)
		}
	}
}

// command does one that a script picks.
func (x *twins) command(t *testing.T, s *script) {
	t.Helper()
	e, offset, length := s.plain(x.w)
	if s.below(2) == 0 {
		e = s.export(x.w)
		offset, length = s.span(x.w, e)
	}
	good := s.below(5) == 0
	switch kind := s.below(7); {
	case kind < 2:
		got, answer := x.v.Read(e, offset, uint32(length))
		data, want := x.w.read(e, offset, uint32(length))
		x.want(t, "Read", 0, answer, want)
		if !bytes.Equal(got, data) {
			t.Fatalf("Read of %d at %d: %q, want %q", length, offset, got, data)
		}
	case kind < 5:
		data := bytes.Repeat(numbers(uint64(s.next()), 97), 1+int(min(length, 65537))/97)[:min(length, 65537)]
		x.want(t, "Write", 1, x.v.Write(e, offset, data, good), x.w.write(e, offset, data, good))
	case kind < 6:
		x.want(t, "Trim", 2, x.v.Trim(e, offset, uint32(length), good), x.w.trim(e, offset, uint32(length), good))
	default:
		x.want(t, "Zero", 3, x.v.Zero(e, offset, uint32(length), good), x.w.zero(e, offset, uint32(length), good))
	}
}

// plain is a range of few blocks, none of them far up.
func (s *script) plain(w *words) (api.Export, uint64, uint64) {
	b := uint64(w.s.Dev().Shape().Block)
	kind := s.next()
	offset := b*uint64(kind%6) + s.pick(0, 0, 1, b-1)
	return most(uint32(1 + kind/6%2)), offset, uint64(kind/12%3)*b + uint64(kind/36%3)
}

// export is one of some tenant, who may be none of the table's.
func (s *script) export(w *words) api.Export {
	b := uint64(w.s.Dev().Shape().Block)
	e := export(uint32(1+s.below(4)), s.pick(8*b, 20*b, 20*b, 20*b+7, b, 100, 0, 1<<32, 1<<63, -b, 1<<64-1))
	e.ReadOnly = s.below(12) == 0
	return e
}

// span is a range, which mostly begins in the export, at its beginning or its end.
func (s *script) span(w *words, e api.Export) (uint64, uint64) {
	b := uint64(w.s.Dev().Shape().Block)
	offset := s.pick(0, b, 2*b, 3*b, 5*b, 9*b, b/2, b-1, b+1, uint64(s.below(20))*b, uint64(s.below(2000)), e.Size, e.Size-b, e.Size-3*b, e.Size-1, e.Size+1, e.Size-uint64(s.below(999)), 1<<63, 1<<64-1)
	length := s.pick(0, 1, 3, b-1, b, b+1, 2*b, 3*b, 5*b, 9*b, uint64(s.below(int(b))), uint64(s.below(2000)), e.Size-offset, e.Size-offset, 65536, 65537, 1<<31, 1<<32-1)
	return offset, min(length, 1<<32-1)
}

func shapes() []api.Shape {
	return []api.Shape{small(), wide(), shape(9, 9, 128, 3), shape(12, 33, 64, 4), shape(10, 15, 256, 2), shape(8, 40, 4096, 3)}
}

// quotas are some that fit, of all that there is in all, or less.
func (s *script) quotas(at api.Shape) []api.Tenant {
	room := (at.Zones - 3 - at.Reserve) * (at.ZoneBlocks / 4)
	var l []uint64
	for range 1 + s.below(3) {
		n := s.below(room + 1)
		room -= n
		l = append(l, uint64(n))
	}
	l[0] += uint64(room)
	return tenants(l...)
}

// live does what a script picks to both: commands, cleaning, flushes, crashes.
func live(t *testing.T, s *script, sum *summary) {
	at := shapes()[s.below(len(shapes()))]
	l := s.quotas(at)
	x := twins{made(t, at, l...), newWords(store.New(at), l, sum), l}
	for len(s.left) > 0 {
		switch s.below(60) {
		case 0, 1:
			x.v.Flush()
			x.w.s.Flush()
		case 2:
			if got, want := x.v.Clean(), clean.Step(x.w.s); got != want {
				t.Fatalf("Clean: %v, want %v", got, want)
			}
		case 3:
			x.crash(t, s)
		default:
			x.command(t, s)
		}
	}
	x.everything(t)
}

// crash loses the same of both; who is there then, and with which quotas, may be others than before.
func (x *twins) crash(t *testing.T, s *script) {
	t.Helper()
	at := x.v.Store().Dev().Shape()
	var losses []api.Loss
	for range s.below(at.Zones + 1) {
		losses = append(losses, api.Loss{Keep: s.below(at.ZoneBlocks), Torn: s.below(2) * s.below(at.Block)})
	}
	if s.below(3) == 0 {
		x.l = s.quotas(at)
	}
	x.v.Store().Dev().Crash(losses)
	x.w.s.Dev().Crash(losses)
	x.v = recovered(t, x.v.Store().Dev(), x.l...)
	u, errno := roll.Recover(x.w.s.Dev())
	if errno != api.OK {
		t.Fatal(errno)
	}
	x.w = newWords(u, x.l, x.w.sum)
	x.want(t, "Recover", 0, 0, 0)
}

// everything asks for all that there is.
func (x *twins) everything(t *testing.T) {
	t.Helper()
	b := uint64(x.w.s.Dev().Shape().Block)
	for _, p := range x.w.s.Map().All() {
		if p.Block >= 1<<63/b*2 {
			continue
		}
		want := x.w.data(p.Tenant, p.Block)
		wantRead(t, x.v, most(p.Tenant), p.Block*b, string(want[:b-1]))
	}
}

func TestManyCommands(t *testing.T) {
	var sum summary
	for seed := range uint64(250) {
		live(t, &script{numbers(seed, 3000)}, &sum)
	}
	want := [4][]uint32{{0, 22}, {0, 1, 22, 28}, {0, 1, 22}, {0, 1, 28}}
	for kind, l := range want {
		for _, answer := range l {
			if sum.answers[kind][answer] < 100 {
				t.Fatalf("too few of some kind: %v", sum.answers)
			}
		}
	}
	if sum.pieces < 100 || sum.cleaned < 100 {
		t.Fatalf("too few with pieces, or cleaned: %d, %d", sum.pieces, sum.cleaned)
	}
}

func FuzzCommands(f *testing.F) {
	for seed := range uint64(20) {
		f.Add(numbers(seed, 600))
	}
	f.Fuzz(func(t *testing.T, b []byte) { live(t, &script{b[:min(len(b), 3000)]}, new(summary)) })
}

// TestManyDevices recovers devices on which a store has put what no volumes would: of any tenants, any blocks, more than there is room for.
func TestManyDevices(t *testing.T) {
	var sum summary
	full, above := 0, 0
	for seed := range uint64(400) {
		s := &script{numbers(seed, 1500)}
		at := shapes()[s.below(len(shapes())-1)]
		a := store.New(at)
		most := s.below(at.Zones * at.ZoneBlocks)
		for range most {
			p := block(a, uint32(1+s.below(4)), s.pick(0, 1, 2, uint64(s.below(99)), 1<<58, 1<<58-1, 1<<52-1, 1<<64-1), s.next())
			if a.Put([]api.Put{p}) != api.OK {
				full++
				break
			}
		}
		a.Flush()
		l := s.quotas(at)
		b, errno := roll.Recover(zone.Open(at, a.Dev().Zones()))
		if errno != api.OK {
			continue
		}
		x := twins{recovered(t, a.Dev(), l...), newWords(b, l, &sum), l}
		for _, y := range l {
			if b.Map().Count(y.ID) > y.Quota {
				above++
			}
		}
		x.want(t, "Recover", 0, 0, 0)
		for len(s.left) > 0 {
			x.command(t, s)
		}
		x.everything(t)
	}
	if min(full, above, sum.answers[1][5], sum.answers[2][5], sum.answers[3][5]) < 100 {
		t.Fatalf("too few of some kind: %v, %d full, %d above a quota", sum.answers, full, above)
	}
}

// TestWordsHoldTheExample has the words themselves say what the chapter's example does.
func TestWordsHoldTheExample(t *testing.T) {
	l := tenants(3)
	w := newWords(store.New(wide()), l, new(summary))
	wantAnswer(t, "write", w.write(most(1), 62, []byte{7, 8, 9}, false), 0)
	b, answer := w.read(most(1), 0, 128)
	want := slices.Concat(make([]byte, 62), []byte{7, 8, 9}, make([]byte, 63))
	if answer != 0 || !bytes.Equal(b, want) || w.used[1] != 2 {
		t.Fatal(b, answer, w.used)
	}
	wantAnswer(t, "trim", w.trim(most(1), 0, 128, false), 0)
	wantAnswer(t, "write", w.write(export(1, 100), 99, []byte{1, 2}, false), 28)
	if w.used[1] != 0 {
		t.Fatal(w.used)
	}
}
