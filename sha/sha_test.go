package sha_test

import (
	"bytes"
	"crypto/sha256"
	"encoding/hex"
	"testing"

	"coaming/api"
	"coaming/sha"
)

// someBytes are n bytes without a short period, the same in every run.
func someBytes(n int) []byte {
	out := make([]byte, n)
	x := uint32(1)
	for i := range out {
		x = x*1664525 + 1013904223
		out[i] = byte(x >> 24)
	}
	return out
}

// digest is that of pieces, one behind the other.
func digest(pieces ...[]byte) api.Hash {
	h := sha.New()
	for _, p := range pieces {
		h.Write(p)
	}
	return h.Sum()
}

func wantDigest(t *testing.T, name string, got api.Hash, of []byte) {
	t.Helper()
	if want := api.Hash(sha256.Sum256(of)); got != want {
		t.Errorf("%s: %x, want %x", name, got, want)
	}
}

func TestExamples(t *testing.T) {
	for _, c := range []struct{ in, want string }{
		{"abc", "ba7816bf8f01cfea414140de5dae2223b00361a396177a9cb410ff61f20015ad"},
		{"", "e3b0c44298fc1c149afbf4c8996fb92427ae41e4649b934ca495991b7852b855"},
		{"abcdbcdecdefdefgefghfghighijhijkijkljklmklmnlmnomnopnopq", "248d6a61d20638b8e5c026930c3e6039a33ce45964ff2167f6ecedd419db06c1"},
	} {
		d := digest([]byte(c.in))
		if got := hex.EncodeToString(d[:]); got != c.want {
			t.Errorf("of %q: %s, want %s", c.in, got, c.want)
		}
	}
}

func TestNewHasTakenNothing(t *testing.T) {
	h := sha.New()
	if h.Len() != 0 {
		t.Errorf("Len of a new one: %d", h.Len())
	}
	wantDigest(t, "Sum of a new one", h.Sum(), nil)
}

func TestNothingIsTaken(t *testing.T) {
	h := sha.New()
	h.Write(nil)
	h.Write([]byte{})
	if h.Len() != 0 {
		t.Errorf("Len behind nothing: %d", h.Len())
	}
	wantDigest(t, "Sum behind nothing", h.Sum(), nil)
	h.Write(someBytes(64))
	h.Write(nil)
	if h.Len() != 64 {
		t.Errorf("Len behind 64 and nothing: %d", h.Len())
	}
	wantDigest(t, "Sum behind 64 and nothing", h.Sum(), someBytes(64))
}

func TestEveryLength(t *testing.T) {
	b := someBytes(400)
	for n := range len(b) + 1 {
		h := sha.New()
		h.Write(b[:n])
		if h.Len() != uint64(n) {
			t.Errorf("Len of %d bytes: %d", n, h.Len())
		}
		wantDigest(t, "one piece", h.Sum(), b[:n])
	}
}

func TestSameBytes(t *testing.T) {
	for _, x := range []byte{0x00, 0x80, 0xff} {
		for _, n := range []int{1, 55, 56, 63, 64, 65, 119, 120, 127, 128, 129} {
			b := bytes.Repeat([]byte{x}, n)
			wantDigest(t, "same bytes", digest(b), b)
		}
	}
}

// A number of bits that needs more than one or two bytes shows that all of them are told.
func TestMany(t *testing.T) {
	for _, n := range []int{31, 32, 8191, 8192, 1<<21 - 1, 1 << 21, 1<<21 + 57} {
		b := someBytes(n)
		wantDigest(t, "many bytes", digest(b), b)
	}
}

func TestCutsMakeNoDifference(t *testing.T) {
	b := someBytes(200)
	want := digest(b)
	for i := range len(b) + 1 {
		for _, j := range []int{i, min(i+1, len(b)), min(i+63, len(b)), min(i+64, len(b)), min(i+65, len(b)), len(b)} {
			if got := digest(b[:i], b[i:j], b[j:]); got != want {
				t.Errorf("cut at %d and %d: %x, want %x", i, j, got, want)
			}
		}
	}
	for step := 1; step <= 130; step++ {
		h := sha.New()
		for i := 0; i < len(b); i += step {
			h.Write(b[i:min(i+step, len(b))])
			h.Write(nil)
		}
		if got := h.Sum(); got != want || h.Len() != uint64(len(b)) {
			t.Errorf("pieces of %d: %x and %d, want %x and %d", step, got, h.Len(), want, len(b))
		}
	}
}

func TestSumLeavesTheHash(t *testing.T) {
	b := someBytes(200)
	h := sha.New()
	for i := range b {
		first, again := h.Sum(), h.Sum()
		if first != again {
			t.Fatalf("behind %d bytes: %x, then %x", i, first, again)
		}
		wantDigest(t, "byte by byte", first, b[:i])
		if h.Len() != uint64(i) {
			t.Fatalf("Len behind Sum: %d, want %d", h.Len(), i)
		}
		h.Write(b[i : i+1])
	}
	wantDigest(t, "at the end", h.Sum(), b)
}

func TestSumIsNewMemory(t *testing.T) {
	h := sha.New()
	h.Write([]byte("abc"))
	d := h.Sum()
	clear(d[:])
	wantDigest(t, "behind a digest that was changed", h.Sum(), []byte("abc"))
}

func TestPiecesStay(t *testing.T) {
	mem := someBytes(300)
	was := bytes.Clone(mem)
	h := sha.New()
	h.Write(mem[:10:20])
	h.Write(mem[10:150])
	h.Sum()
	if !bytes.Equal(mem, was) {
		t.Error("bytes were changed")
	}
	wantDigest(t, "behind the length is not read", h.Sum(), was[:150])
}

// What is left of a block must not be looked for in the caller's memory later.
func TestPiecesAreNotKept(t *testing.T) {
	for _, n := range []int{1, 40, 63, 64, 65, 100} {
		b := someBytes(n)
		h := sha.New()
		h.Write(b)
		clear(b)
		wantDigest(t, "behind bytes that were changed", h.Sum(), someBytes(n))
		h.Write([]byte("more"))
		wantDigest(t, "and more behind them", h.Sum(), append(someBytes(n), "more"...))
	}
}

func TestHashesAreApart(t *testing.T) {
	a, b := sha.New(), sha.New()
	a.Write([]byte("of a"))
	b.Write(someBytes(70))
	a.Write([]byte(", and more"))
	if a.Len() != 14 || b.Len() != 70 || sha.New().Len() != 0 {
		t.Errorf("lengths %d and %d, of a new one %d", a.Len(), b.Len(), sha.New().Len())
	}
	wantDigest(t, "a", a.Sum(), []byte("of a, and more"))
	wantDigest(t, "b", b.Sum(), someBytes(70))
	wantDigest(t, "a new one", sha.New().Sum(), nil)
}

func FuzzPieces(f *testing.F) {
	f.Add([]byte("a"), []byte("bc"))
	f.Add(make([]byte, 55), []byte{})
	f.Add(make([]byte, 64), make([]byte, 64))
	f.Fuzz(func(t *testing.T, a, b []byte) {
		both := append(bytes.Clone(a), b...)
		wantDigest(t, "two pieces", digest(a, b), both)
		wantDigest(t, "one piece", digest(both), both)
	})
}
