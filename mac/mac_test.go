package mac_test

import (
	"bytes"
	"crypto/hmac"
	"crypto/sha256"
	"encoding/hex"
	"testing"
	"time"

	"coaming/api"
	"coaming/mac"
	"coaming/sha"
)

// someBytes are n bytes without a short period, the same in every run.
func someBytes(n int) []byte {
	out := make([]byte, n)
	x := uint32(7)
	for i := range out {
		x = x*1664525 + 1013904223
		out[i] = byte(x >> 24)
	}
	return out
}

// wanted is the library's tag.
func wanted(key, text []byte) api.Hash {
	h := hmac.New(sha256.New, key)
	h.Write(text)
	return api.Hash(h.Sum(nil))
}

func wantTag(t *testing.T, name string, got api.Hash, key, text []byte) {
	t.Helper()
	if want := wanted(key, text); got != want {
		t.Errorf("%s: %x, want %x", name, got, want)
	}
}

func TestExamples(t *testing.T) {
	aa := bytes.Repeat([]byte{0xaa}, 131)
	for _, c := range []struct{ key, text, want string }{
		{"Jefe", "what do ya want for nothing?", "5bdcc146bf60754e6a042426089575c75a003f089d2739839dec58b964ec3843"},
		{"", "", "b613679a0814d9ec772f95d778c35fc5ff1697c493715653c6c712144292c5ad"},
		{string(aa), "Test Using Larger Than Block-Size Key - Hash Key First", "60e431591ee0b67f0d8a26aacbf5b77f8e0bc6213728c5140546040f0ee37f54"},
	} {
		tag := mac.Of([]byte(c.key), []byte(c.text))
		if got := hex.EncodeToString(tag[:]); got != c.want {
			t.Errorf("of %q by %q: %s, want %s", c.text, c.key, got, c.want)
		}
	}
}

func TestEveryKeyLength(t *testing.T) {
	text := []byte("a text")
	for n := range 201 {
		key := someBytes(n)
		wantTag(t, "key of some length", mac.Of(key, text), key, text)
	}
}

func TestEveryTextLength(t *testing.T) {
	b := someBytes(300)
	for n := range len(b) + 1 {
		wantTag(t, "text of some length", mac.Of([]byte("key"), b[:n]), []byte("key"), b[:n])
	}
	long := someBytes(1 << 20)
	wantTag(t, "a long text", mac.Of(long[:64], long), long[:64], long)
	wantTag(t, "a long key", mac.Of(long, long[:64]), long, long[:64])
}

// Noughts behind a short key are part of its block already; a key of more than a block is its digest.
func TestWhatAKeyIs(t *testing.T) {
	text := []byte("text")
	key := someBytes(10)
	filled := make([]byte, 64)
	copy(filled, key)
	for n := len(key); n <= 64; n++ {
		if mac.Of(filled[:n], text) != mac.Of(key, text) {
			t.Errorf("a key and noughts up to %d: another tag", n)
		}
	}
	if mac.Of(append(filled, 0), text) == mac.Of(key, text) {
		t.Error("65 bytes: the tag of the key without its noughts")
	}
	if mac.Of(nil, text) != mac.Of([]byte{}, text) || mac.Of(nil, text) != mac.Of(make([]byte, 64), text) {
		t.Error("no key and a block of noughts: tags differ")
	}
	for _, n := range []int{65, 66, 128, 1000} {
		h := sha.New()
		h.Write(someBytes(n))
		short := h.Sum()
		if mac.Of(someBytes(n), text) != mac.Of(short[:], text) {
			t.Errorf("a key of %d bytes: not as its digest", n)
		}
	}
	h := sha.New()
	h.Write(someBytes(64))
	if short := h.Sum(); mac.Of(someBytes(64), text) == mac.Of(short[:], text) {
		t.Error("a key of 64 bytes was digested")
	}
}

func TestEveryBitOfTheKeyCounts(t *testing.T) {
	key := someBytes(64)
	seen := map[api.Hash]int{mac.Of(key): -1}
	for bit := range 8 * len(key) {
		other := bytes.Clone(key)
		other[bit/8] ^= 1 << (bit % 8)
		tag := mac.Of(other)
		if old, ok := seen[tag]; ok {
			t.Errorf("bit %d: the same tag as %d", bit, old)
		}
		seen[tag] = bit
	}
}

func TestCutsMakeNoDifference(t *testing.T) {
	key, b := someBytes(20), someBytes(140)
	want := mac.Of(key, b)
	for i := range len(b) + 1 {
		for j := i; j <= len(b); j += 7 {
			if got := mac.Of(key, b[:i], nil, b[i:j], []byte{}, b[j:]); got != want {
				t.Errorf("cut at %d and %d: %x, want %x", i, j, got, want)
			}
		}
	}
	var pieces [][]byte
	for i := range b {
		pieces = append(pieces, b[i:i+1])
	}
	if got := mac.Of(key, pieces...); got != want {
		t.Errorf("byte by byte: %x, want %x", got, want)
	}
}

func TestNoPieces(t *testing.T) {
	key := []byte("k")
	want := wanted(key, nil)
	var none [][]byte
	for _, got := range []api.Hash{mac.Of(key), mac.Of(key, none...), mac.Of(key, [][]byte{}...), mac.Of(key, nil), mac.Of(key, []byte{}, nil)} {
		if got != want {
			t.Errorf("no bytes: %x, want %x", got, want)
		}
	}
}

func TestArgumentsStay(t *testing.T) {
	for _, n := range []int{0, 5, 63, 64, 65, 100} {
		mem := someBytes(400)
		was := bytes.Clone(mem)
		pieces := [][]byte{mem[100:140], mem[140:260:300], nil}
		tag := mac.Of(mem[:n], pieces...)
		mac.Same(mem[:n], mem[100:260])
		if !bytes.Equal(mem, was) || len(pieces) != 3 || &pieces[0][0] != &mem[100] || &pieces[1][0] != &mem[140] || pieces[2] != nil {
			t.Errorf("key of %d bytes: arguments were changed", n)
		}
		wantTag(t, "what lies behind the lengths", tag, was[:n], was[100:260])
	}
}

func TestSame(t *testing.T) {
	for _, c := range []struct {
		a, b []byte
		want bool
	}{
		{nil, nil, true},
		{nil, []byte{}, true},
		{[]byte{}, nil, true},
		{nil, []byte{0}, false},
		{[]byte{0}, nil, false},
		{[]byte{0}, []byte{0}, true},
		{[]byte{0}, []byte{0, 0}, false},
		{[]byte{1, 2}, []byte{1, 2}, true},
		{[]byte{1, 2}, []byte{2, 1}, false},
		{[]byte{1, 2}, []byte{1}, false},
		{[]byte{2}, []byte{1, 2}, false},
		{[]byte{1, 0}, []byte{1, 0, 0}, false},
		{[]byte{1, 1}, []byte{2, 2}, false},
		{make([]byte, 256), nil, false},
		{nil, make([]byte, 65536), false},
		{make([]byte, 512), make([]byte, 256), false},
	} {
		if got := mac.Same(c.a, c.b); got != c.want {
			t.Errorf("Same of %d bytes and %d: %v", len(c.a), len(c.b), got)
		}
	}
}

func TestSameSeesEveryBit(t *testing.T) {
	a := someBytes(100)
	if !mac.Same(a, bytes.Clone(a)) || !mac.Same(a, a) {
		t.Error("the same bytes: not the same")
	}
	for bit := range 8 * len(a) {
		b := bytes.Clone(a)
		b[bit/8] ^= 1 << (bit % 8)
		if mac.Same(a, b) || mac.Same(b, a) {
			t.Errorf("bit %d differs: the same", bit)
		}
	}
	for n := range len(a) {
		if mac.Same(a, a[:n]) || mac.Same(a[:n], a) {
			t.Errorf("a front of %d bytes: the same", n)
		}
		// What lies behind a list's length is no part of it.
		if !mac.Same(a[:n], bytes.Clone(a[:n])) {
			t.Errorf("fronts of %d bytes: not the same", n)
		}
	}
}

// One that stops where the lists differ is some hundred thousand times as quick here as one that goes on: that much no machine's moods make up.
func TestSameLooksAtAllBytes(t *testing.T) {
	a := someBytes(1 << 22)
	early, late := bytes.Clone(a), bytes.Clone(a)
	early[0]++
	late[len(late)-1]++
	last := quickest(a, late)
	if first := quickest(a, early); first < last/50 {
		t.Errorf("lists that differ at their front take %v, at their end %v", first, last)
	}
	if short := quickest(a, a[:1]); short < last/50 {
		t.Errorf("a list and its first byte take %v, lists that differ at their end %v", short, last)
	}
}

// quickest is how long Same takes, at its best.
func quickest(a, b []byte) time.Duration {
	best := time.Hour
	for range 7 {
		began := time.Now()
		mac.Same(a, b)
		best = min(best, time.Since(began))
	}
	return best
}

func FuzzAgainstTheLibrary(f *testing.F) {
	f.Add([]byte("Jefe"), []byte("what do ya want "), []byte("for nothing?"))
	f.Add(make([]byte, 64), []byte{}, []byte{})
	f.Add(make([]byte, 65), make([]byte, 64), []byte{1})
	f.Fuzz(func(t *testing.T, key, a, b []byte) {
		both := append(bytes.Clone(a), b...)
		wantTag(t, "two pieces", mac.Of(key, a, b), key, both)
		wantTag(t, "one piece", mac.Of(key, both), key, both)
		if mac.Same(a, b) != bytes.Equal(a, b) || !mac.Same(a, bytes.Clone(a)) {
			t.Errorf("Same of %x and %x", a, b)
		}
	})
}
