package spell_test

import (
	"bytes"
	"encoding/base32"
	"strings"
	"testing"

	"coaming/api"
	"coaming/spell"
)

const signs = "abcdefghijklmnopqrstuvwxyz234567"

// library is the library's way to write the same signs; what it reads is less strict.
func library() *base32.Encoding {
	return base32.NewEncoding(signs).WithPadding(base32.NoPadding)
}

// someBytes are n bytes without a short period, the same in every run.
func someBytes(n int) []byte {
	out := make([]byte, n)
	x := uint32(11)
	for i := range out {
		x = x*1664525 + 1013904223
		out[i] = byte(x >> 24)
	}
	return out
}

func wantRead(t *testing.T, s string, want []byte) {
	t.Helper()
	if b, e := spell.Read(s); e != api.OK || !bytes.Equal(b, want) {
		t.Errorf("Read of %q: %x, %v, want %x", s, b, e, want)
	}
}

func wantForm(t *testing.T, s string) {
	t.Helper()
	if b, e := spell.Read(s); e != api.ErrSpellForm || len(b) != 0 {
		t.Errorf("Read of %q: %x, %v, want ErrSpellForm", s, b, e)
	}
}

func TestExamples(t *testing.T) {
	for _, c := range []struct{ bytes, text string }{
		{"", ""},
		{"f", "my"},
		{"fo", "mzxq"},
		{"foo", "mzxw6"},
		{"foob", "mzxw6yq"},
		{"fooba", "mzxw6ytb"},
		{"foobar", "mzxw6ytboi"},
		{"\x00", "aa"},
		{"\xff", "74"},
		{"\x00\x00\x00\x00\x00", "aaaaaaaa"},
		{"\xff\xff\xff\xff\xff", "77777777"},
	} {
		if s := spell.Write([]byte(c.bytes)); s != c.text {
			t.Errorf("Write of %q: %q, want %q", c.bytes, s, c.text)
		}
		wantRead(t, c.text, []byte(c.bytes))
	}
	for _, s := range []string{"mz", "MY", "m"} {
		wantForm(t, s)
	}
}

func TestNilIsEmpty(t *testing.T) {
	if s := spell.Write(nil); s != "" {
		t.Errorf("Write of nil: %q", s)
	}
	if s := spell.Write([]byte{}); s != "" {
		t.Errorf("Write of no bytes: %q", s)
	}
}

func TestEverySignHasItsValue(t *testing.T) {
	for v := range 32 {
		high := byte(v << 3)
		if s := spell.Write([]byte{high}); s != signs[v:v+1]+"a" {
			t.Errorf("value %d is written %q", v, s)
		}
		wantRead(t, signs[v:v+1]+"a", []byte{high})
		wantRead(t, "aaaaaaa"+signs[v:v+1], []byte{0, 0, 0, 0, byte(v)})
	}
}

func TestEveryLengthAgainstTheLibrary(t *testing.T) {
	for n := range 300 {
		b := someBytes(n)
		want := library().EncodeToString(b)
		if s := spell.Write(b); s != want {
			t.Errorf("%d bytes: %q, want %q", n, s, want)
		}
		wantRead(t, want, b)
	}
	long := someBytes(1<<20 + 3)
	want := library().EncodeToString(long)
	if spell.Write(long) != want {
		t.Error("a long list: not as the library writes it")
	}
	if b, e := spell.Read(want); e != api.OK || !bytes.Equal(b, long) {
		t.Errorf("a long text: %d bytes, %v", len(b), e)
	}
}

func TestEveryBitStandsWhereItShould(t *testing.T) {
	for n := 1; n <= 11; n++ {
		for bit := range 8 * n {
			b := make([]byte, n)
			b[bit/8] = 0x80 >> (bit % 8)
			want := []byte(strings.Repeat("a", (8*n+4)/5))
			want[bit/5] = signs[16>>(bit%5)]
			if s := spell.Write(b); s != string(want) {
				t.Errorf("bit %d of %d bytes: %q, want %q", bit, n, s, want)
			}
			wantRead(t, string(want), b)
		}
	}
}

// One sign, three and six end where no byte does.
func TestLengths(t *testing.T) {
	for n := range 41 {
		s := strings.Repeat("a", n)
		switch n % 8 {
		case 1, 3, 6:
			wantForm(t, s)
		default:
			wantRead(t, s, make([]byte, n*5/8))
		}
	}
}

func TestOtherSigns(t *testing.T) {
	for c := range 256 {
		sign := string([]byte{byte(c)})
		if strings.Contains(signs, sign) {
			continue
		}
		good := "mzxw6ytboi"
		for i := range len(good) {
			wantForm(t, good[:i]+sign+good[i+1:])
		}
		wantForm(t, sign)
		wantForm(t, good+sign)
		wantForm(t, sign+good)
		wantForm(t, good[:8]+sign+"a")
	}
	for _, s := range []string{"my=", "my======", "m1", "m0", "m8", "m9", "my\n", " my", "é", "ſa", "my\x00", "mY", "My"} {
		wantForm(t, s)
	}
}

func TestLastBits(t *testing.T) {
	for n := 1; n <= 12; n++ {
		s := spell.Write(someBytes(n))
		last := strings.IndexByte(signs, s[len(s)-1])
		spare := uint(5*len(s) - 8*n)
		for more := 1; more < 1<<spare; more++ {
			wantForm(t, s[:len(s)-1]+signs[last+more:last+more+1])
		}
	}
}

// Of all short texts those alone are read that some bytes are written as.
func TestEveryTextOfTwoOrThreeSigns(t *testing.T) {
	written := map[string]byte{}
	for v := range 256 {
		written[spell.Write([]byte{byte(v)})] = byte(v)
	}
	if len(written) != 256 {
		t.Fatalf("256 bytes have %d texts", len(written))
	}
	for i := range 32 * 32 {
		s := string([]byte{signs[i/32], signs[i%32]})
		if v, ok := written[s]; ok {
			wantRead(t, s, []byte{v})
		} else {
			wantForm(t, s)
		}
		for j := range 32 {
			wantForm(t, s+signs[j:j+1])
		}
	}
}

func TestArgumentsStayAndAnswersAreNew(t *testing.T) {
	mem := someBytes(40)
	was := bytes.Clone(mem)
	s := spell.Write(mem[3:12:20])
	if !bytes.Equal(mem, was) {
		t.Error("Write changed its argument")
	}
	if want := library().EncodeToString(was[3:12]); s != want {
		t.Errorf("a piece of a list: %q, want %q", s, want)
	}
	for i := range mem {
		mem[i] = 0
	}
	if want := library().EncodeToString(was[3:12]); s != want {
		t.Error("the text changed with the list that it was made of")
	}
	one, _ := spell.Read(s)
	two, _ := spell.Read(s)
	for i := range one {
		one[i]++
	}
	if !bytes.Equal(two, was[3:12]) {
		t.Error("two answers share memory")
	}
	if again, _ := spell.Read(s); !bytes.Equal(again, was[3:12]) {
		t.Error("an answer is kept")
	}
}

func FuzzWriteThenRead(f *testing.F) {
	f.Add([]byte("foobar"))
	f.Add([]byte{0, 255, 0})
	f.Fuzz(func(t *testing.T, b []byte) {
		s := spell.Write(b)
		if want := library().EncodeToString(b); s != want {
			t.Errorf("Write of %x: %q, want %q", b, s, want)
		}
		wantRead(t, s, b)
	})
}

func FuzzReadThenWrite(f *testing.F) {
	f.Add("mzxw6ytboi")
	f.Add("mz")
	f.Add("aaa")
	f.Fuzz(func(t *testing.T, s string) {
		b, e := spell.Read(s)
		lib, err := library().DecodeString(s)
		is := err == nil && library().EncodeToString(lib) == s
		switch {
		case is && (e != api.OK || !bytes.Equal(b, lib)):
			t.Errorf("Read of %q: %x, %v, want %x", s, b, e, lib)
		case !is && (e != api.ErrSpellForm || len(b) != 0):
			t.Errorf("Read of %q: %x, %v, want ErrSpellForm", s, b, e)
		case e == api.OK && spell.Write(b) != s:
			t.Errorf("%q is read, and written as %q", s, spell.Write(b))
		}
	})
}
