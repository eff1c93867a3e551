package vol_test

import (
	"math"
	"testing"

	"coaming/api"
	"coaming/vol"
)

// span is a range.
type span struct {
	offset uint64
	length uint32
}

// beyond are ranges that do not lie in an export of this size, some of which would if numbers wrapped round.
func beyond(size uint64) []span {
	var l []span
	add := func(offset uint64, length uint32) {
		if offset > size || uint64(length) > size-offset {
			l = append(l, span{offset, length})
		}
	}
	for _, length := range []uint32{0, 1, 2, 64, 65, 100, 65536, 1 << 31, math.MaxUint32 - 1, math.MaxUint32} {
		for _, offset := range []uint64{0, 1, size - 65, size - 64, size - 1, size, size + 1, size + 64, size - uint64(length), size - uint64(length) + 1, 1 << 32, 1 << 63, -uint64(length), -uint64(length) - 1, -uint64(length) + 1, math.MaxUint64 - 1, math.MaxUint64} {
			add(offset, length)
		}
	}
	return l
}

func sizes() []uint64 {
	return []uint64{0, 1, 63, 64, 65, 100, 128, 640, 65535, 65536, 65537, 1 << 32, 1<<32 - 1, 1 << 63, math.MaxUint64 - 64, math.MaxUint64 - 63, math.MaxUint64}
}

// filledVol is one whose tenant 1 has written three blocks at the front, and the two last ones that there can be.
func filledVol(t *testing.T) *vol.Vol {
	t.Helper()
	v := made(t, wide(), tenants(6, 1)...)
	write(t, v, most(1), 0, text(192, 1))
	write(t, v, most(1), math.MaxUint64-127, text(127, 2))
	v.Flush()
	return v
}

func TestBeyond(t *testing.T) {
	v := filledVol(t)
	before := v.Store().Dev().Zones()
	count := 0
	for _, size := range sizes() {
		e := export(1, size)
		for _, x := range beyond(size) {
			count++
			wantNoRead(t, v, e, x.offset, x.length)
			wantNoRead(t, v, readOnly(e), x.offset, x.length)
			wantAnswer(t, "Trim", v.Trim(e, x.offset, x.length, true), api.AnsInval)
			wantAnswer(t, "Zero", v.Zero(e, x.offset, x.length, true), api.AnsNoSpc)
			if x.length <= 65536 {
				wantAnswer(t, "Write", v.Write(e, x.offset, make([]byte, x.length), true), api.AnsNoSpc)
			}
		}
	}
	wantZones(t, "beyond", v.Store().Dev(), before)
	wantUsed(t, v, 5, 0)
	if count < 1000 {
		t.Fatal("too few ranges:", count)
	}
}

// TestOrder has several answers apply: the first one is told.
func TestOrder(t *testing.T) {
	long, inside := make([]byte, 65537), make([]byte, 193)
	for _, x := range []struct {
		what      string
		got, want uint32
	}{
		{"Write: read-only, long, beyond", filledVol(t).Write(readOnly(export(1, 9)), 10, long, false), api.AnsPerm},
		{"Write: read-only, beyond", filledVol(t).Write(readOnly(export(1, 9)), 10, inside, false), api.AnsPerm},
		{"Write: read-only, quota", filledVol(t).Write(readOnly(most(1)), 640, inside, false), api.AnsPerm},
		{"Write: read-only", filledVol(t).Write(readOnly(most(1)), 0, []byte{1}, false), api.AnsPerm},
		{"Write: read-only, nothing", filledVol(t).Write(readOnly(most(1)), 0, nil, false), api.AnsPerm},
		{"Write: long, beyond", filledVol(t).Write(export(1, 9), 10, long, false), api.AnsInval},
		{"Write: long, quota", filledVol(t).Write(most(1), 0, long, false), api.AnsInval},
		{"Write: beyond, quota", filledVol(t).Write(export(1, 800), 640, inside, false), api.AnsNoSpc},
		{"Write: quota", filledVol(t).Write(most(1), 640, inside, false), api.AnsNoSpc},
		{"Trim: read-only, beyond", filledVol(t).Trim(readOnly(export(1, 9)), 10, 1, false), api.AnsPerm},
		{"Trim: read-only", filledVol(t).Trim(readOnly(most(1)), 0, 64, false), api.AnsPerm},
		{"Trim: read-only, nothing", filledVol(t).Trim(readOnly(most(1)), 0, 0, false), api.AnsPerm},
		{"Trim: beyond", filledVol(t).Trim(export(1, 9), 9, 1, false), api.AnsInval},
		{"Zero: read-only, beyond", filledVol(t).Zero(readOnly(export(1, 9)), 10, 1, false), api.AnsPerm},
		{"Zero: read-only", filledVol(t).Zero(readOnly(most(1)), 0, 64, false), api.AnsPerm},
		{"Zero: read-only, nothing", filledVol(t).Zero(readOnly(most(1)), 0, 0, false), api.AnsPerm},
		{"Zero: beyond", filledVol(t).Zero(export(1, 9), 9, 1, false), api.AnsNoSpc},
	} {
		wantAnswer(t, x.what, x.got, x.want)
	}
	v := filledVol(t)
	wantNoRead(t, v, export(1, 9), 10, 65537)
	wantNoRead(t, v, most(1), 0, 65537)
	wantNoRead(t, v, most(1), 0, math.MaxUint32)
	wantRead(t, v, readOnly(most(1)), 0, text(192, 1))
}

// TestNothing has ranges without bytes, wherever in an export: they touch no block.
func TestNothing(t *testing.T) {
	v := filledVol(t)
	before := v.Store().Dev().Zones()
	for _, size := range sizes() {
		for _, offset := range []uint64{0, 1, 63, 64, size / 2, size - min(size, 1), size} {
			if offset > size {
				continue
			}
			for _, tenant := range []uint32{1, 2, 3} {
				e := export(tenant, size)
				wantRead(t, v, e, offset, "")
				wantRead(t, v, readOnly(e), offset, "")
				write(t, v, e, offset, "")
				trim(t, v, e, offset, 0)
				zero(t, v, e, offset, 0)
			}
		}
	}
	wantZones(t, "nothing", v.Store().Dev(), before)
	wantUsed(t, v, 5, 0)
}

// TestToTheEnd has the last block of the greatest export, which ends where numbers do.
func TestToTheEnd(t *testing.T) {
	for _, b := range []int{64, 512, 4096} {
		v := made(t, shape(10, 32, b, 2), tenants(8)...)
		n := uint64(b)
		write(t, v, most(1), math.MaxUint64-n-9, text(b+9, 1))
		wantUsed(t, v, 2)
		wantRead(t, v, most(1), math.MaxUint64-n-10, "\x00"+text(b+9, 1))
		if _, is := v.Store().Map().Get(1, math.MaxUint64/n); !is {
			t.Fatal("the last block is not there")
		}
		write(t, v, most(1), math.MaxUint64-1, "x")
		want := over(text(b+9, 1), b+8, "x")
		wantRead(t, v, most(1), math.MaxUint64-n-9, want)
		// The last byte of the block is beyond each export, so that it never lies in a range whole.
		trim(t, v, most(1), -n, uint32(n-1))
		wantUsed(t, v, 2)
		wantRead(t, v, most(1), math.MaxUint64-n-9, want)
		zero(t, v, most(1), -n, uint32(n-1))
		wantUsed(t, v, 2)
		wantRead(t, v, most(1), math.MaxUint64-n-9, want[:10]+noughts(b-1))
		zero(t, v, most(1), -(2 * n), uint32(2*n-1))
		wantUsed(t, v, 1)
		trim(t, v, most(1), math.MaxUint64-math.MaxUint32, math.MaxUint32)
		zero(t, v, most(1), math.MaxUint64-math.MaxUint32, math.MaxUint32)
		wantUsed(t, v, 1)
		// Block 0 is not what comes behind the last one.
		wantRead(t, v, most(1), 0, noughts(2*b))
	}
}

// TestNumbersOfBlocks has blocks on the device whose bytes would be at 2^64 and above: no range has them.
func TestNumbersOfBlocks(t *testing.T) {
	v := made(t, wide(), tenants(6)...)
	s := v.Store()
	put(t, s, block(s, 1, 1<<58, 1), block(s, 1, 1<<58+1, 2), block(s, 1, math.MaxUint64, 3), block(s, 1, 1<<63, 4), block(s, 1, 1<<58-1, 5))
	v = recovered(t, s.Dev(), tenants(6)...)
	wantUsed(t, v, 5)
	wantRead(t, v, most(1), 0, noughts(640))
	wantRead(t, v, most(1), math.MaxUint64-63, text(63, 5))
	for _, length := range []uint32{128, math.MaxUint32} {
		trim(t, v, most(1), 0, length)
		zero(t, v, most(1), 0, length)
		trim(t, v, most(1), math.MaxUint64-uint64(length), length)
		wantUsed(t, v, 5)
	}
	write(t, v, most(1), 0, "a")
	wantUsed(t, v, 6)
	if n := s.Map().Count(1); n != 5 {
		t.Fatal(n)
	}
}

// TestEachRange writes, trims and empties each range of four blocks, of which some are there.
func TestEachRange(t *testing.T) {
	const size = 4 * 64
	for there := range 16 {
		for _, from := range []int{0, 1, 32, 63, 64, 65, 127, 128, 129, 192, 255} {
			for _, to := range []int{1, 32, 63, 64, 65, 127, 128, 129, 191, 192, 193, 255, 256} {
				if from >= to {
					continue
				}
				// The front and what is behind belong to no range.
				old, v := "", made(t, wide(), tenants(6)...)
				for i := range 4 {
					piece := noughts(64)
					if there&(1<<i) != 0 {
						piece = text(64, i)
						write(t, v, most(1), uint64(i+1)*64, piece)
					}
					old += piece
				}
				write(t, v, most(1), 5*64, text(1, 8))
				wantRange(t, v, there, old, from, to)
			}
		}
	}
}

// wantRange does each command to a range, of which only some blocks are there. Blocks stand one block up.
func wantRange(t *testing.T, v *vol.Vol, there int, old string, from, to int) {
	t.Helper()
	v.Flush()
	again := func() *vol.Vol { return recovered(t, v.Store().Dev(), tenants(6)...) }
	used := func(is func(i int) bool) uint64 {
		n := uint64(1)
		for i := range 4 {
			if is(i) {
				n++
			}
		}
		return n
	}
	was := func(i int) bool { return there&(1<<i) != 0 }
	touched := func(i int) bool { return from < (i+1)*64 && to > i*64 }
	inside := func(i int) bool { return from <= i*64 && to >= (i+1)*64 }
	offset, length := uint64(64+from), uint32(to-from)

	w := again()
	wantRead(t, w, most(1), offset, old[from:to])
	trim(t, w, most(1), offset, length)
	want := old
	for i := range 4 {
		if inside(i) {
			want = over(want, i*64, noughts(64))
		}
	}
	wantRead(t, w, most(1), 0, noughts(64)+want+text(1, 8))
	wantUsed(t, w, used(func(i int) bool { return was(i) && !inside(i) }))

	write(t, w, most(1), offset, text(to-from, 11))
	want = over(want, from, text(to-from, 11))
	wantRead(t, w, most(1), 0, noughts(64)+want+text(1, 8))
	wantUsed(t, w, used(func(i int) bool { return was(i) && !inside(i) || touched(i) }))

	zero(t, w, most(1), offset, length)
	want = over(want, from, noughts(to-from))
	wantRead(t, w, most(1), 0, noughts(64)+want+text(1, 8))
	wantUsed(t, w, used(func(i int) bool { return !inside(i) && (was(i) || touched(i)) }))
}

// TestPartsOfTheLastBlock has exports that end within a block: what lies beyond stays, and the block is never trimmed.
func TestPartsOfTheLastBlock(t *testing.T) {
	v := made(t, wide(), tenants(4)...)
	write(t, v, most(1), 0, text(192, 1))
	e := export(1, 100)
	trim(t, v, e, 0, 100)
	wantUsed(t, v, 2)
	wantRead(t, v, most(1), 0, noughts(64)+text(192, 1)[64:])
	zero(t, v, e, 0, 100)
	wantUsed(t, v, 2)
	wantRead(t, v, most(1), 0, noughts(100)+text(192, 1)[100:])
	write(t, v, e, 90, text(10, 5))
	wantRead(t, v, most(1), 89, "\x00"+text(10, 5)+text(192, 1)[100:])
	wantAnswer(t, "Write", v.Write(e, 90, make([]byte, 11), false), api.AnsNoSpc)
}

// TestNoughtsAreBlocks has blocks that are written with 00, or emptied in parts: they count, as they are somewhere.
func TestNoughtsAreBlocks(t *testing.T) {
	v := made(t, wide(), tenants(2)...)
	write(t, v, most(1), 0, noughts(64))
	wantUsed(t, v, 1)
	write(t, v, most(1), 64, "a")
	zero(t, v, most(1), 64, 63)
	wantUsed(t, v, 2)
	zero(t, v, most(1), 127, 1)
	wantUsed(t, v, 2)
	wantAnswer(t, "Write", v.Write(most(1), 128, []byte{0}, false), api.AnsNoSpc)
	zero(t, v, most(1), 64, 64)
	wantUsed(t, v, 1)
	write(t, v, most(1), 128, "\x00")
	wantUsed(t, v, 2)
}

// TestQuota has writes that take just as much as is left, and one block more.
func TestQuota(t *testing.T) {
	v := made(t, wide(), tenants(4, 3, 0)...)
	wantAnswer(t, "Write", v.Write(most(1), 0, make([]byte, 257), false), api.AnsNoSpc)
	wantUsed(t, v, 0)
	wantAnswer(t, "Write", v.Write(most(1), 1, make([]byte, 256), false), api.AnsNoSpc)
	write(t, v, most(1), 0, text(256, 1))
	wantUsed(t, v, 4, 0)
	for i := range uint64(4) {
		write(t, v, most(1), i*64+3, "x")
	}
	wantAnswer(t, "Write", v.Write(most(1), 255, []byte{1, 2}, false), api.AnsNoSpc)
	wantRead(t, v, most(1), 192, over(text(256, 1)[192:], 3, "x")+"\x00")
	trim(t, v, most(1), 64, 64)
	write(t, v, most(1), 6400, "y")
	wantAnswer(t, "Write", v.Write(most(1), 64, []byte{1}, false), api.AnsNoSpc)
	wantUsed(t, v, 4, 0, 0)
	write(t, v, most(2), 0, text(192, 2))
	wantAnswer(t, "Write", v.Write(most(2), 192, []byte{1}, false), api.AnsNoSpc)
	wantAnswer(t, "Write", v.Write(most(3), 0, []byte{1}, false), api.AnsNoSpc)
	wantUsed(t, v, 4, 3, 0)
}

// TestLongest has reads and writes of as many bytes as there may be, and one more.
func TestLongest(t *testing.T) {
	for _, b := range []int{64, 4096} {
		v := made(t, shape(12, 1024, b, 2), tenants(1100)...)
		for i, offset := range []uint64{0, 1, 1<<40 + 63, 65536} {
			write(t, v, most(1), offset, text(65536, i))
			wantRead(t, v, most(1), offset, text(65536, i))
			wantNoRead(t, v, most(1), offset, 65537)
			wantAnswer(t, "Write", v.Write(most(1), offset, make([]byte, 65537), false), api.AnsInval)
			wantUsed(t, v, uint64((65536+int(offset%uint64(b))+b-1)/b))
			zero(t, v, most(1), 0, 1<<20)
			trim(t, v, most(1), 1<<40, 1<<20)
			wantUsed(t, v, 0)
		}
	}
}

// TestReadIsNewMemory changes what was read, and what was written.
func TestReadIsNewMemory(t *testing.T) {
	v := made(t, wide(), tenants(3)...)
	room := []byte(text(130, 1) + "behind it")
	data := room[:130]
	wantAnswer(t, "Write", v.Write(most(1), 10, data, false), api.AnsOK)
	if string(room) != text(130, 1)+"behind it" {
		t.Fatal("what was handed in was changed")
	}
	clear(room)
	for _, length := range []uint32{130, 64, 1} {
		a, _ := v.Read(most(1), 10, length)
		for _, b := range a[length:cap(a)] {
			if b != 0 {
				t.Fatal("what lies behind was handed out")
			}
		}
		clear(a[:cap(a)])
		b, _ := v.Read(most(1), 10, length)
		c, _ := v.Read(most(1), 10, length)
		clear(b[:cap(b)])
		if string(c) != text(130, 1)[:length] {
			t.Fatal("reads share memory")
		}
	}
	wantRead(t, v, most(1), 10, text(130, 1))
	a, _ := v.Read(most(1), 6400, 64)
	a[0] = 1
	wantRead(t, v, most(1), 6400, noughts(64))
}
