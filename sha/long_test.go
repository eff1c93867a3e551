package sha

import (
	"crypto/sha256"
	"encoding"
	"encoding/binary"
	"testing"

	"coaming/api"
)

// after is the digest of a hash that has the library's state behind so many bytes (a multiple of 64), and of more behind it.
func after(t *testing.T, taken uint64, more []byte) api.Hash {
	t.Helper()
	state := []byte("sha\x03")
	for _, v := range start {
		state = binary.BigEndian.AppendUint32(state, v)
	}
	state = append(state, make([]byte, blockLen)...)
	state = binary.BigEndian.AppendUint64(state, taken)
	h := sha256.New()
	if err := h.(encoding.BinaryUnmarshaler).UnmarshalBinary(state); err != nil {
		t.Fatal(err)
	}
	h.Write(more)
	return api.Hash(h.Sum(nil))
}

// So many bytes can't be written in a test: a hash is set as if it had taken them.
func TestLongLengthsAreTold(t *testing.T) {
	more := []byte("and a few more behind a great many bytes that nobody has written")
	for _, taken := range []uint64{1 << 29, 1<<31 - 64, 1 << 32, 1 << 40, 1<<61 - 64, 1 << 61, 1<<63 + 1<<62} {
		for n := range len(more) {
			h := &Hash{state: start, taken: taken}
			h.Write(more[:n])
			if h.Len() != taken+uint64(n) {
				t.Errorf("Len behind %d and %d: %d", taken, n, h.Len())
			}
			if got, want := h.Sum(), after(t, taken, more[:n]); got != want {
				t.Errorf("behind %d and %d: %x, want %x", taken, n, got, want)
			}
		}
	}
}
