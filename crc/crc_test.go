package crc_test

import (
	"bytes"
	"hash/crc32"
	"testing"

	"coaming/crc"
)

// someBytes are n bytes without a short period, the same in every run.
func someBytes(n int) []byte {
	out := make([]byte, n)
	x := uint32(1)
	for i := range out {
		x = x*1664525 + 1013904223
		out[i] = byte(x >> 24)
	}
	return out
}

func TestSumExamples(t *testing.T) {
	if got := crc.Sum([]byte("123456789")); got != 0xcbf43926 {
		t.Errorf("Sum of 123456789: %08x", got)
	}
	for name, got := range map[string]uint32{
		"no list":      crc.Sum(),
		"no lists":     crc.Sum([][]byte{}...),
		"a nil list":   crc.Sum(nil),
		"an empty one": crc.Sum([]byte{}),
		"several":      crc.Sum(nil, []byte{}, nil),
	} {
		if got != 0 {
			t.Errorf("Sum of nothing (%s): %08x", name, got)
		}
	}
}

func TestSumKnown(t *testing.T) {
	for _, c := range []struct {
		in   []byte
		want uint32
	}{
		{[]byte("a"), 0xe8b7be43},
		{[]byte("The quick brown fox jumps over the lazy dog"), 0x414fa339},
		{[]byte{0}, 0xd202ef8d},
		{[]byte{0xff}, 0xff000000},
		{make([]byte, 32), 0x190a55ad},
		{bytes.Repeat([]byte{0xff}, 32), 0xff6cab0b},
	} {
		if got := crc.Sum(c.in); got != c.want {
			t.Errorf("Sum of %x: %08x, want %08x", c.in, got, c.want)
		}
	}
}

func TestSumOfEveryLength(t *testing.T) {
	b := someBytes(600)
	for n := range len(b) + 1 {
		if got, want := crc.Sum(b[:n]), crc32.ChecksumIEEE(b[:n]); got != want {
			t.Fatalf("Sum of %d bytes: %08x, want %08x", n, got, want)
		}
	}
}

func TestSumOfMany(t *testing.T) {
	b := someBytes(1 << 20)
	if got, want := crc.Sum(b), crc32.ChecksumIEEE(b); got != want {
		t.Errorf("%08x, want %08x", got, want)
	}
}

func TestNextKnown(t *testing.T) {
	for _, c := range []struct {
		sum  uint32
		b    byte
		want uint32
	}{
		{0, 0x00, 0xd202ef8d},
		{0, 0xff, 0xff000000},
		{0xffffffff, 0x00, 0xffffffff},
		{0xffffffff, 0xff, 0xd2fd1072},
		{0, 'a', 0xe8b7be43},
		{0xe8b7be43, 'b', 0x9e83486d},
		{0x9e83486d, 'c', 0x352441c2},
		{0xff000000, 0xff, 0xffff0000},
	} {
		if got := crc.Next(c.sum, c.b); got != c.want {
			t.Errorf("Next(%08x, %02x): %08x, want %08x", c.sum, c.b, got, c.want)
		}
	}
}

func TestNextOfEveryByte(t *testing.T) {
	sums := []uint32{0, 1, 0x7fffffff, 0x80000000, 0xfffffffe, 0xffffffff, 0xedb88320, 0xcbf43926, 0x000000ff, 0xffffff00}
	for _, sum := range sums {
		for b := range 256 {
			want := crc32.Update(sum, crc32.IEEETable, []byte{byte(b)})
			if got := crc.Next(sum, byte(b)); got != want {
				t.Errorf("Next(%08x, %02x): %08x, want %08x", sum, b, got, want)
			}
		}
	}
}

func TestByteMoreIsNext(t *testing.T) {
	b := someBytes(300)
	sum := crc.Sum()
	for i, x := range b {
		sum = crc.Next(sum, x)
		if want := crc.Sum(b[:i+1]); sum != want {
			t.Fatalf("Next behind %d bytes: %08x, want %08x", i, sum, want)
		}
	}
}

func TestListsOneBehindTheOther(t *testing.T) {
	b := someBytes(100)
	want := crc.Sum(b)
	for i := range len(b) + 1 {
		if got := crc.Sum(b[:i], b[i:]); got != want {
			t.Errorf("cut at %d: %08x, want %08x", i, got, want)
		}
		if got := crc.Sum(nil, b[:i], []byte{}, nil, b[i:], []byte{}); got != want {
			t.Errorf("cut at %d, with nothing between: %08x, want %08x", i, got, want)
		}
	}
	var single [][]byte
	for i := range b {
		single = append(single, b[i:i+1], nil)
	}
	if got := crc.Sum(single...); got != want {
		t.Errorf("byte by byte: %08x, want %08x", got, want)
	}
}

func TestOrderOfListsCounts(t *testing.T) {
	if crc.Sum([]byte("ab"), []byte("cd")) == crc.Sum([]byte("cd"), []byte("ab")) {
		t.Error("lists that changed places have the same sum")
	}
}

func TestListsStay(t *testing.T) {
	mem := someBytes(64)
	lists := [][]byte{mem[:16], nil, {}, mem[16:48], mem[48:]}
	was := bytes.Clone(mem)
	crc.Sum(lists[:4]...)
	if !bytes.Equal(mem, was) {
		t.Error("bytes were changed")
	}
	if len(lists[0]) != 16 || lists[1] != nil || lists[2] == nil || len(lists[3]) != 32 || len(lists[4]) != 16 {
		t.Error("lists were changed")
	}
	if &lists[0][0] != &mem[0] || &lists[3][0] != &mem[16] || &lists[4][0] != &mem[48] {
		t.Error("lists have other memory")
	}
}

func TestBehindTheLengthIsNotRead(t *testing.T) {
	mem := []byte("123456789 and more")
	lists := [][]byte{mem[:4], mem[4:9], []byte("more")}
	if got := crc.Sum(lists[:2]...); got != 0xcbf43926 {
		t.Errorf("%08x", got)
	}
	if got := crc.Sum(mem[:9]); got != 0xcbf43926 {
		t.Errorf("%08x", got)
	}
}

func TestNothingIsKept(t *testing.T) {
	b := []byte("123456789")
	crc.Sum([]byte("something else"))
	first := crc.Sum(b)
	b[0] = 'x'
	crc.Sum(b)
	b[0] = '1'
	if again := crc.Sum(b); again != first {
		t.Errorf("%08x, then %08x", first, again)
	}
}

func FuzzSum(f *testing.F) {
	f.Add([]byte("1234"), []byte("56789"))
	f.Add([]byte{}, []byte{0})
	f.Add([]byte{0xff, 0xff, 0xff, 0xff}, []byte{})
	f.Fuzz(func(t *testing.T, a, b []byte) {
		both := append(bytes.Clone(a), b...)
		want := crc32.ChecksumIEEE(both)
		if got := crc.Sum(a, b); got != want {
			t.Errorf("two lists: %08x, want %08x", got, want)
		}
		if got := crc.Sum(both); got != want {
			t.Errorf("one list: %08x, want %08x", got, want)
		}
	})
}
