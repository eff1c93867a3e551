package wire_test

import (
	"bytes"
	"encoding/binary"
	"math"
	"slices"
	"testing"

	"coaming/wire"
)

// otherWidths are widths that no number has.
func otherWidths() []int {
	out := []int{0, 3, 5, 6, 7, 9, 10, 15, 16, 17, 24, 32, 64, 128, 255, 256, 257, 258, 260, 264, 1 << 16, 1<<32 + 1, 1<<32 + 4, math.MaxInt, math.MinInt}
	for n := range 300 {
		out = append(out, -n)
	}
	return out
}

// edges are the least and greatest numbers, those beside what a width holds, each bit alone, and one whose bytes all differ.
func edges() []uint64 {
	out := []uint64{0, 0x0123456789abcdef, math.MaxUint64}
	for bit := range 64 {
		out = append(out, 1<<bit, 1<<bit-1, 1<<bit+1)
	}
	return out
}

// wantedBytes is a number of a width, by the library.
func wantedBytes(width int, n uint64) []byte {
	switch width {
	case 1:
		return []byte{byte(n)}
	case 2:
		return binary.BigEndian.AppendUint16(nil, uint16(n))
	case 4:
		return binary.BigEndian.AppendUint32(nil, uint32(n))
	default:
		return binary.BigEndian.AppendUint64(nil, n)
	}
}

// held is a number modulo what a width holds.
func held(width int, n uint64) uint64 {
	switch width {
	case 1, 2, 4:
		return n % (1 << (8 * width))
	default:
		return n
	}
}

// someBytes are n bytes without a short period, the same in every run.
func someBytes(n int) []byte {
	out := make([]byte, n)
	x := uint32(3)
	for i := range out {
		x = x*1664525 + 1013904223
		out[i] = byte(x >> 24)
	}
	return out
}

func wantPacked(t *testing.T, widths []int, values []uint64, want []byte) {
	t.Helper()
	if got := wire.Pack(widths, values...); !bytes.Equal(got, want) {
		t.Errorf("Pack of %d by %d: %x, want %x", values, widths, got, want)
	}
}

func wantTaken(t *testing.T, b []byte, widths []int, values []uint64, rest []byte) {
	t.Helper()
	got, left, enough := wire.Take(b, widths...)
	if !enough || !slices.Equal(got, values) || !bytes.Equal(left, rest) {
		t.Errorf("Take of %x by %d: %d, %x, %v, want %d, %x", b, widths, got, left, enough, values, rest)
	}
}

func wantTooFew(t *testing.T, b []byte, widths ...int) {
	t.Helper()
	if values, rest, enough := wire.Take(b, widths...); enough || len(values) != 0 || len(rest) != 0 {
		t.Errorf("Take of %x by %d: %d, %x, %v, want nothing, nothing, false", b, widths, values, rest, enough)
	}
}

func TestExamples(t *testing.T) {
	wantPacked(t, []int{2, 1}, []uint64{258, 3}, []byte{1, 2, 3})
	wantTaken(t, []byte{1, 2, 3}, []int{1, 2}, []uint64{1, 515}, nil)
	wantTooFew(t, []byte{1}, 2)
}

// The bytes, written out by hand: every width in one list, the highest byte first.
func TestAllWidths(t *testing.T) {
	widths := []int{1, 2, 4, 8}
	values := []uint64{0x01, 0x0203, 0x04050607, 0x08090a0b0c0d0e0f}
	b := []byte{1, 2, 3, 4, 5, 6, 7, 8, 9, 10, 11, 12, 13, 14, 15}
	wantPacked(t, widths, values, b)
	wantTaken(t, b, widths, values, nil)
	wantTaken(t, append(b, 0, 255), widths, values, []byte{0, 255})
}

func TestEachWidthAgainstTheLibrary(t *testing.T) {
	for _, width := range append([]int{1, 2, 4, 8}, otherWidths()...) {
		for _, n := range edges() {
			b := wantedBytes(width, n)
			wantPacked(t, []int{width}, []uint64{n}, b)
			wantTaken(t, b, []int{width}, []uint64{held(width, n)}, nil)
		}
	}
}

func TestEachByteOfANumberCounts(t *testing.T) {
	for _, width := range []int{1, 2, 4, 8} {
		for i := range width {
			b := make([]byte, width)
			for c := range 256 {
				b[i] = byte(c)
				n := uint64(c) << (8 * (width - 1 - i))
				wantTaken(t, b, []int{width}, []uint64{n}, nil)
				wantPacked(t, []int{width}, []uint64{n}, b)
			}
		}
	}
}

func TestWhatDoesNotFitIsModulo(t *testing.T) {
	wantPacked(t, []int{1}, []uint64{256}, []byte{0})
	wantPacked(t, []int{1}, []uint64{511}, []byte{255})
	wantPacked(t, []int{2}, []uint64{1<<16 + 1}, []byte{0, 1})
	wantPacked(t, []int{4}, []uint64{1<<32 + 2}, []byte{0, 0, 0, 2})
	wantPacked(t, []int{1, 2, 4, 8}, []uint64{math.MaxUint64, math.MaxUint64, math.MaxUint64, math.MaxUint64}, bytes.Repeat([]byte{255}, 15))
	// The bytes that do not fit go nowhere else.
	wantPacked(t, []int{1, 1, 1}, []uint64{0xaabb, 0xccdd, 0xeeff}, []byte{0xbb, 0xdd, 0xff})
}

func TestOtherWidthsAreEight(t *testing.T) {
	n := uint64(0x0102030405060708)
	b := []byte{1, 2, 3, 4, 5, 6, 7, 8}
	for _, width := range otherWidths() {
		wantPacked(t, []int{1, width, 2}, []uint64{9, n, 10}, append(append([]byte{9}, b...), 0, 10))
		wantTaken(t, append(b, 9), []int{width}, []uint64{n}, []byte{9})
		for short := range b {
			wantTooFew(t, b[:short], width)
		}
	}
}

func TestPackGoesAsFarAsBothLists(t *testing.T) {
	widths := []int{1, 2, 4, 8, 3, 0, -1}
	values := []uint64{1, 2, 3, 4, 5, 6, 7}
	for i := range len(widths) + 1 {
		for j := range len(values) + 1 {
			var want []byte
			for k := range min(i, j) {
				want = append(want, wantedBytes(widths[k], values[k])...)
			}
			wantPacked(t, widths[:i], values[:j], want)
		}
	}
}

func TestNothingToPack(t *testing.T) {
	wantPacked(t, nil, nil, nil)
	wantPacked(t, []int{}, []uint64{}, nil)
	wantPacked(t, nil, []uint64{1, 2}, nil)
	wantPacked(t, []int{1, 9}, nil, nil)
	if b := wire.Pack(nil); len(b) != 0 {
		t.Errorf("Pack of nothing: %x", b)
	}
}

func TestNothingToTake(t *testing.T) {
	for _, b := range [][]byte{nil, {}, {0}, {1, 2, 3}, someBytes(1000)} {
		wantTaken(t, b, nil, nil, b)
		wantTaken(t, b, []int{}, nil, b)
	}
	for _, width := range append([]int{1, 2, 4, 8}, otherWidths()...) {
		wantTooFew(t, nil, width)
		wantTooFew(t, []byte{}, width)
	}
}

func TestEveryFrontIsTooFew(t *testing.T) {
	widths := []int{1, 8, 4, 2, 3, 1, -1, 2}
	b := someBytes(1 + 8 + 4 + 2 + 8 + 1 + 8 + 2)
	values, rest, enough := wire.Take(b, widths...)
	if !enough || len(values) != len(widths) || len(rest) != 0 {
		t.Fatalf("all of it: %d, %x, %v", values, rest, enough)
	}
	for n := range b {
		wantTooFew(t, b[:n], widths...)
	}
	for n := range 20 {
		more := append(bytes.Clone(b), someBytes(n)...)
		wantTaken(t, more, widths, values, someBytes(n))
	}
	// Where something is missing, a shorter number behind the gap is not taken instead.
	wantTooFew(t, []byte{1, 2}, 4, 1)
	wantTooFew(t, []byte{1, 2, 3}, 2, 2, 1)
}

func TestTakeOfPackIsTheValues(t *testing.T) {
	all := append([]int{1, 2, 4, 8}, otherWidths()...)
	values := edges()
	for begin := range all {
		var widths []int
		var want []uint64
		for i, n := range values {
			width := all[(begin+i*7)%len(all)]
			widths = append(widths, width)
			want = append(want, held(width, n))
		}
		b := wire.Pack(widths, values...)
		wantTaken(t, b, widths, want, nil)
		wantTaken(t, append(b, 7, 0), widths, want, []byte{7, 0})
		if len(b) > 0 {
			wantTooFew(t, b[:len(b)-1], widths...)
		}
	}
}

func TestPackOfTakeIsTheBytes(t *testing.T) {
	b := someBytes(500)
	for n := range 60 {
		widths := make([]int, n)
		for i := range widths {
			widths[i] = []int{4, 1, 8, 2}[(i*i+n)%4]
		}
		values, rest, enough := wire.Take(b, widths...)
		if got := append(wire.Pack(widths, values...), rest...); !enough || !bytes.Equal(got, b) {
			t.Errorf("%d widths: %x, %v", n, got, enough)
		}
	}
}

// What lies behind a list's length is no part of it, however much memory the list has.
func TestBehindTheLengthIsNotRead(t *testing.T) {
	mem := []byte{1, 2, 3, 4, 5, 6, 7, 8, 9}
	for _, width := range []int{2, 4, 8, 3} {
		wantTooFew(t, mem[:1], width)
		wantTooFew(t, mem[:0], width)
	}
	wantTooFew(t, mem[:3], 2, 2)
	wantTaken(t, mem[:4], []int{1, 2}, []uint64{1, 515}, []byte{4})
	widths, values := []int{1, 2, 4}, []uint64{1, 2, 3}
	wantTaken(t, mem, widths[:1], []uint64{1}, mem[1:])
	wantPacked(t, widths[:2], values, []byte{1, 0, 2})
	wantPacked(t, widths, values[:2], []byte{1, 0, 2})
}

func TestArgumentsStay(t *testing.T) {
	mem, widths, values := someBytes(40), []int{2, 3, 1, 8, 0, 4}, []uint64{1 << 20, 2, 3, 4, 5, 6}
	wasMem, wasWidths, wasValues := bytes.Clone(mem), slices.Clone(widths), slices.Clone(values)
	wire.Pack(widths[:4], values[:3]...)
	wire.Take(mem[:30], widths[:4]...)
	wire.Take(mem[:5], widths[:4]...)
	wire.Take(mem[:30])
	if !bytes.Equal(mem, wasMem) || !slices.Equal(widths, wasWidths) || !slices.Equal(values, wasValues) {
		t.Error("arguments were changed")
	}
}

func TestAnswersAreNewMemory(t *testing.T) {
	mem := someBytes(40)
	was := bytes.Clone(mem)
	for _, widths := range [][]int{nil, {1}, {8, 2}} {
		values, rest, _ := wire.Take(mem[:30], widths...)
		other, again, _ := wire.Take(mem[:30], widths...)
		wantRest, wantValues := bytes.Clone(rest), slices.Clone(values)
		overwrite(other, again)
		if !bytes.Equal(mem, was) || !bytes.Equal(rest, wantRest) || !slices.Equal(values, wantValues) {
			t.Errorf("by %d: an answer shares memory", widths)
		}
		mem[29]++
		if !bytes.Equal(rest, wantRest) {
			t.Errorf("by %d: the rest changes with the argument", widths)
		}
		mem[29]--
	}
	first, second := wire.Pack([]int{4, 2}, 1, 2), wire.Pack([]int{4, 2}, 1, 2)
	overwrite(nil, second)
	if !bytes.Equal(first, []byte{0, 0, 0, 1, 0, 2}) {
		t.Error("two answers of Pack share memory")
	}
}

// overwrite changes all that lists have, behind their lengths, too.
func overwrite(values []uint64, b []byte) {
	for i := range values[:cap(values)] {
		values[:cap(values)][i] ^= math.MaxUint64
	}
	for i := range b[:cap(b)] {
		b[:cap(b)][i] ^= 255
	}
}

// A rest that is empty must not be a way to the argument's memory either.
func TestEmptyRestIsNewMemory(t *testing.T) {
	mem := []byte{1, 2, 3, 4}
	_, rest, _ := wire.Take(mem[:2], 2)
	_ = append(rest, 9, 9)
	if !bytes.Equal(mem, []byte{1, 2, 3, 4}) {
		t.Errorf("the argument's memory is %x", mem)
	}
}

// Giving up leaves nothing behind: the next call reads as if none had been.
func TestNothingIsKept(t *testing.T) {
	for range 3 {
		wantTooFew(t, []byte{9, 9, 9}, 2, 2)
		wantTaken(t, []byte{1, 2, 3}, []int{1, 2}, []uint64{1, 515}, nil)
		wantPacked(t, []int{2, 1}, []uint64{258, 3}, []byte{1, 2, 3})
	}
}

func TestMany(t *testing.T) {
	const n = 1 << 18
	widths, values, want := make([]int, n), make([]uint64, n), make([]uint64, n)
	for i := range n {
		widths[i] = []int{1, 2, 4, 8, 5}[i%5]
		values[i] = uint64(i) * 0x9e3779b97f4a7c15
		want[i] = held(widths[i], values[i])
	}
	b := wire.Pack(widths, values...)
	got, rest, enough := wire.Take(append(b, 1), widths...)
	if !enough || !slices.Equal(got, want) || !bytes.Equal(rest, []byte{1}) {
		t.Errorf("%d numbers: not the same, %x, %v", n, rest, enough)
	}
	if got, rest, enough := wire.Take(b[:len(b)-1], widths...); enough || len(got) != 0 || len(rest) != 0 {
		t.Errorf("%d numbers of too few bytes: %d of them, %d bytes, %v", n, len(got), len(rest), enough)
	}
}

func FuzzThereAndBack(f *testing.F) {
	f.Add([]byte{1, 2, 3}, []byte{1, 2})
	f.Add([]byte{1}, []byte{2})
	f.Add([]byte{}, []byte{})
	f.Add(someBytes(40), []byte{8, 4, 3, 255, 1})
	f.Fuzz(func(t *testing.T, b, picked []byte) {
		var widths []int
		need := 0
		for _, p := range picked {
			widths = append(widths, int(int8(p)))
			need += len(wantedBytes(int(int8(p)), 0))
		}
		values, rest, enough := wire.Take(b, widths...)
		if enough != (need <= len(b)) {
			t.Fatalf("%d bytes for %d: %v", len(b), need, enough)
		}
		if !enough {
			wantTooFew(t, b, widths...)
			return
		}
		if got := append(wire.Pack(widths, values...), rest...); len(values) != len(widths) || !bytes.Equal(got, b) {
			t.Errorf("Take of %x by %d: %d, %x", b, widths, values, rest)
		}
	})
}
