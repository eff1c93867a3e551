package greet_test

import (
	"bytes"
	"encoding/binary"
	"math"
	"slices"
	"strings"
	"testing"

	"coaming/api"
	"coaming/greet"
)

// magic is what stands ahead of an option.
const magic = "IHAVEOPT"

func four(n uint32) []byte { return binary.BigEndian.AppendUint32(nil, n) }

// join is lists, one behind the other.
func join(lists ...[]byte) []byte { return bytes.Join(lists, nil) }

// option is an option's bytes, by the library; length may say otherwise than data.
func option(kind, length uint32, data []byte) []byte {
	return join([]byte(magic), four(kind), four(length), data)
}

// question is the data of an option that asks about a name, by the library; the counts may say otherwise.
func question(nameLength uint32, name string, count uint16, wants ...uint16) []byte {
	out := append(four(nameLength), name...)
	out = binary.BigEndian.AppendUint16(out, count)
	for _, n := range wants {
		out = binary.BigEndian.AppendUint16(out, n)
	}
	return out
}

// someBytes are n bytes without a short period, the same in every run.
func someBytes(n int) []byte {
	out := make([]byte, n)
	x := uint32(7)
	for i := range out {
		x = x*1664525 + 1013904223
		out[i] = byte(x >> 24)
	}
	return out
}

func wantBytes(t *testing.T, what string, got, want []byte) {
	t.Helper()
	if !bytes.Equal(got, want) {
		t.Errorf("%s: %x, want %x", what, got, want)
	}
}

func wantFlags(t *testing.T, b []byte, noNoughts bool, n int, errno api.Errno) {
	t.Helper()
	if gotNo, gotN, gotErr := greet.Flags(b); gotNo != noNoughts || gotN != n || gotErr != errno {
		t.Errorf("Flags of %x: %v, %d, %d, want %v, %d, %d", b, gotNo, gotN, gotErr, noNoughts, n, errno)
	}
}

func wantNext(t *testing.T, b []byte, kind uint32, data []byte, n int) {
	t.Helper()
	o, got, errno := greet.Next(b)
	if errno != api.OK || o.Kind != kind || !bytes.Equal(o.Data, data) || got != n {
		t.Errorf("Next of %d bytes: %v, %d, %d, want %d, %x, %d", len(b), o, got, errno, kind, data, n)
	}
}

func wantNoOption(t *testing.T, b []byte, errno api.Errno) {
	t.Helper()
	if o, n, got := greet.Next(b); o.Kind != 0 || len(o.Data) != 0 || n != 0 || got != errno {
		t.Errorf("Next of %d bytes (%x): %v, %d, %d, want error %d alone", len(b), b[:min(len(b), 20)], o, n, got, errno)
	}
}

func wantAsked(t *testing.T, data []byte, name string, wants []uint16) {
	t.Helper()
	gotName, gotWants, errno := greet.Asked(data)
	if errno != api.OK || gotName != name || !slices.Equal(gotWants, wants) {
		t.Errorf("Asked of %d bytes: %q, %d, %d, want %q, %d", len(data), gotName, gotWants, errno, name, wants)
	}
}

func wantNoQuestion(t *testing.T, data []byte) {
	t.Helper()
	if name, wants, errno := greet.Asked(data); name != "" || len(wants) != 0 || errno != api.ErrGreetForm {
		t.Errorf("Asked of %d bytes (%x): %q, %d, %d, want error %d alone", len(data), data[:min(len(data), 20)], name, wants, errno, api.ErrGreetForm)
	}
}

func TestExamples(t *testing.T) {
	wantFlags(t, []byte{0, 0, 0, 3}, true, 4, api.OK)
	wantNext(t, []byte("IHAVEOPT\x00\x00\x00\x02\x00\x00\x00\x00"), api.OptAbort, nil, 16)
	wantAsked(t, []byte{0, 0, 0, 1, 'a', 0, 0}, "a", nil)
}

func TestErrorsAreTheDocuments(t *testing.T) {
	got := []api.Errno{api.ErrGreetMore, api.ErrGreetMagic, api.ErrGreetFlags, api.ErrGreetLong, api.ErrGreetForm}
	if want := []api.Errno{70, 71, 72, 73, 74}; !slices.Equal(got, want) {
		t.Errorf("%d, want %d", got, want)
	}
}

func TestHello(t *testing.T) {
	want := []byte{0x4e, 0x42, 0x44, 0x4d, 0x41, 0x47, 0x49, 0x43, 0x49, 0x48, 0x41, 0x56, 0x45, 0x4f, 0x50, 0x54, 0, 3}
	wantBytes(t, "Hello", greet.Hello(), want)
}

func TestFlagsOfEveryNumber(t *testing.T) {
	numbers := []uint32{math.MaxUint32, 1<<31 | 1, 1<<31 | 3, 1<<24 | 1, 1<<24 | 3, 1<<16 | 3, 1<<8 | 1, 1<<8 | 3}
	for n := range uint32(1 << 10) {
		numbers = append(numbers, n)
	}
	for bit := range 32 {
		numbers = append(numbers, 1<<bit, 1<<bit|1, 1<<bit|3)
	}
	for _, n := range numbers {
		for _, behind := range []string{"", "\x00", "\x00\x00\x00\x03", magic, strings.Repeat("x", 1000)} {
			b := append(four(n), behind...)
			if n == 1 || n == 3 {
				wantFlags(t, b, n == 3, 4, api.OK)
			} else {
				wantFlags(t, b, false, 0, api.ErrGreetFlags)
			}
		}
	}
}

// Too few bytes are asked for first, whatever number they begin.
func TestFlagsOfTooFewBytes(t *testing.T) {
	for _, b := range [][]byte{nil, {}, {0}, {0, 0}, {0, 0, 0}, {0, 0, 3}, {3}, {255}, {255, 255, 255}, {0, 0, 1}} {
		wantFlags(t, b, false, 0, api.ErrGreetMore)
	}
}

func TestNextOfEachKind(t *testing.T) {
	kinds := []uint32{0, 1, 2, 3, 4, 5, 6, 7, 8, 0x01020304, math.MaxUint32, 1 << 31}
	for bit := range 32 {
		kinds = append(kinds, 1<<bit)
	}
	for _, kind := range kinds {
		for _, n := range []int{0, 1, 2, 15, 16, 17, 255, 256, 257, 1023, 1024} {
			data := someBytes(n)
			wantNext(t, option(kind, uint32(n), data), kind, data, 16+n)
		}
	}
}

func TestNextOfEachLength(t *testing.T) {
	mem := someBytes(2000)
	for n := range uint32(1025) {
		wantNext(t, option(api.OptGo, n, mem), api.OptGo, mem[:n], 16+int(n))
		wantNext(t, option(api.OptGo, n, mem[:n]), api.OptGo, mem[:n], 16+int(n))
		if n > 0 {
			wantNoOption(t, option(api.OptGo, n, mem[:n-1]), api.ErrGreetMore)
			wantNoOption(t, option(api.OptGo, n, nil), api.ErrGreetMore)
		}
	}
}

func TestNextOfTooLong(t *testing.T) {
	lengths := []uint32{1025, 1026, 2000, 2048, 1 << 16, 1<<16 + 1, 1 << 31, 1<<31 + 4, math.MaxInt32, math.MaxUint32, math.MaxUint32 - 15}
	for bit := 11; bit < 32; bit++ {
		lengths = append(lengths, 1<<bit, 1<<bit+1)
	}
	for _, n := range lengths {
		for _, behind := range []int{0, 1, 1024, 1025, 3000} {
			wantNoOption(t, option(api.OptGo, n, make([]byte, behind)), api.ErrGreetLong)
		}
	}
}

func TestNextOfAnotherMagic(t *testing.T) {
	good := option(api.OptGo, 2, []byte("ab"))
	for i := range 8 {
		for bit := range 8 {
			bad := bytes.Clone(good)
			bad[i] ^= 1 << bit
			wantNoOption(t, bad, api.ErrGreetMagic)
			wantNoOption(t, bad[:16], api.ErrGreetMagic)
			wantNoOption(t, bad[:15], api.ErrGreetMore)
		}
	}
	wantNoOption(t, make([]byte, 16), api.ErrGreetMagic)
	wantNoOption(t, greet.Hello(), api.ErrGreetMagic)
	wantNoOption(t, greet.Reply(1, 1, nil), api.ErrGreetMagic)
}

// Several faults at once: the one that the promise names first.
func TestOrderOfErrors(t *testing.T) {
	wantNoOption(t, nil, api.ErrGreetMore)
	wantNoOption(t, []byte{}, api.ErrGreetMore)
	wantNoOption(t, []byte("ihaveopt"), api.ErrGreetMore)
	wantNoOption(t, bytes.Repeat([]byte{255}, 15), api.ErrGreetMore)
	wantNoOption(t, bytes.Repeat([]byte{255}, 16), api.ErrGreetMagic)
	wantNoOption(t, append([]byte("ihaveopt"), 0, 0, 0, 7, 0, 0, 4, 1), api.ErrGreetMagic)
	wantNoOption(t, append([]byte("ihaveopt"), 0, 0, 0, 7, 0, 0, 4, 0), api.ErrGreetMagic)
	wantNoOption(t, option(7, 1025, nil), api.ErrGreetLong)
	wantNoOption(t, option(7, 1024, nil), api.ErrGreetMore)
}

// A front is ErrGreetMore, or the error of the whole; what stands behind makes no difference.
func TestFrontsAndWhatStandsBehind(t *testing.T) {
	for _, whole := range [][]byte{
		option(api.OptAbort, 0, nil), option(api.OptGo, 3, []byte("abc")), option(api.OptExport, 1024, someBytes(1024)),
		option(api.OptGo, 1025, someBytes(1025)), join([]byte("JHAVEOPT"), four(1), four(0)), bytes.Repeat([]byte{9}, 30),
	} {
		o, n, errno := greet.Next(whole)
		for i := range len(whole) {
			if _, _, got := greet.Next(whole[:i]); got != api.ErrGreetMore && (errno == api.OK || got != errno) {
				t.Errorf("a front of %d of %d bytes: %d, the whole: %d", i, len(whole), got, errno)
			}
			if i < 16 {
				wantNoOption(t, whole[:i], api.ErrGreetMore)
			}
		}
		for _, behind := range [][]byte{{0}, []byte(magic), whole, someBytes(5000)} {
			more, m, got := greet.Next(join(whole, behind))
			if more.Kind != o.Kind || !bytes.Equal(more.Data, o.Data) || m != n || got != errno {
				t.Errorf("with %d bytes behind %d: %v, %d, %d, want %v, %d, %d", len(behind), len(whole), more, m, got, o, n, errno)
			}
		}
	}
}

func TestOptionsOneBehindTheOther(t *testing.T) {
	var b []byte
	for i := range 50 {
		b = append(b, option(uint32(i), uint32(i*20), someBytes(i*20))...)
	}
	for i := range 50 {
		wantNext(t, b, uint32(i), someBytes(i*20), 16+i*20)
		b = b[16+i*20:]
	}
	wantNoOption(t, b, api.ErrGreetMore)
}

// Many small options in what is kept: each is read in the time that itself takes, not the rest.
func TestManyOptions(t *testing.T) {
	b := bytes.Repeat(option(api.OptList, 0, nil), 1<<16)
	count := 0
	for len(b) > 0 {
		_, n, errno := greet.Next(b)
		if errno != api.OK || n != 16 {
			t.Fatalf("option %d: %d, %d", count, n, errno)
		}
		b = b[n:]
		count++
	}
	if count != 1<<16 {
		t.Errorf("%d options", count)
	}
}

func TestReply(t *testing.T) {
	numbers := []uint32{0, 1, 3, 7, 0x01020304, api.RepUnsup, api.RepTooBig, math.MaxUint32}
	for _, opt := range numbers {
		for _, kind := range numbers {
			for _, data := range [][]byte{nil, {}, {0}, []byte("abc"), someBytes(255), someBytes(256), someBytes(70000)} {
				want := join([]byte{0, 3, 0xe8, 0x89, 4, 0x55, 0x65, 0xa9}, four(opt), four(kind), four(uint32(len(data))), data)
				if got := greet.Reply(opt, kind, data); !bytes.Equal(got, want) {
					t.Errorf("Reply(%d, %d, %d bytes): %x", opt, kind, len(data), got[:min(len(got), 24)])
				}
			}
		}
	}
}

func TestReplyToAnOption(t *testing.T) {
	want := []byte{0, 3, 0xe8, 0x89, 4, 0x55, 0x65, 0xa9, 0, 0, 0, 7, 0x80, 0, 0, 6, 0, 0, 0, 0}
	wantBytes(t, "Reply", greet.Reply(api.OptGo, api.RepUnknown, nil), want)
}

func TestAskedOfEachName(t *testing.T) {
	names := []string{"", "a", "\x00", "\xff\xfe", "é", "a\x00b", strings.Repeat("n", 80)}
	for n := range 256 {
		names = append(names, string(someBytes(n)))
	}
	for _, name := range names {
		for _, wants := range [][]uint16{nil, {3}, {0, 1, 2, 3}, {3, 3}, {0xffff, 0, 0x0102}} {
			wantAsked(t, question(uint32(len(name)), name, uint16(len(wants)), wants...), name, wants)
		}
	}
}

func TestAskedOfEachCount(t *testing.T) {
	var wants []uint16
	for i := range math.MaxUint16 {
		wants = append(wants, uint16(i*40503))
	}
	for _, n := range []int{0, 1, 2, 127, 128, 255, 256, 257, 32767, 32768, 32769, 65534, 65535} {
		wantAsked(t, question(3, "abc", uint16(n), wants[:n]...), "abc", wants[:n])
		wantNoQuestion(t, question(3, "abc", uint16(n), append(slices.Clone(wants[:n]), 0)...))
		if n > 0 {
			wantNoQuestion(t, question(3, "abc", uint16(n), wants[:n-1]...))
		}
	}
	// As many more as the count can't say.
	wantNoQuestion(t, question(0, "", 0, make([]uint16, 1<<16)...))
	wantNoQuestion(t, question(0, "", 1, make([]uint16, 1<<16+1)...))
}

func TestAskedOfLongNames(t *testing.T) {
	wantAsked(t, question(255, strings.Repeat("a", 255), 0), strings.Repeat("a", 255), nil)
	for _, n := range []int{256, 257, 300, 1024, 65536} {
		wantNoQuestion(t, question(uint32(n), strings.Repeat("a", n), 0))
		wantNoQuestion(t, question(uint32(n), strings.Repeat("a", n), 1, 3))
	}
	for _, n := range []uint32{1 << 8, 1 << 16, 1 << 24, 1 << 31, math.MaxInt32, math.MaxUint32, math.MaxUint32 - 3, 1<<16 | 1, 1<<8 | 1} {
		wantNoQuestion(t, question(n, "a", 0))
		wantNoQuestion(t, question(n, "", 0))
	}
}

func TestAskedOfEveryFront(t *testing.T) {
	for _, whole := range [][]byte{question(0, "", 0), question(1, "a", 0), question(5, "abcde", 3, 1, 2, 3), question(0, "", 2, 7, 8), question(255, string(someBytes(255)), 1, 3)} {
		for n := range whole {
			wantNoQuestion(t, whole[:n])
		}
		for n := 1; n < 9; n++ {
			wantNoQuestion(t, append(bytes.Clone(whole), make([]byte, n)...))
		}
	}
	wantNoQuestion(t, nil)
	wantNoQuestion(t, []byte{})
}

func TestAskedOfAnythingElse(t *testing.T) {
	wantNoQuestion(t, question(2, "a", 0))        // the name takes a byte of the count
	wantNoQuestion(t, question(0, "a", 0))        // a byte of the name is taken for the count
	wantNoQuestion(t, question(1, "a", 1))        // what is asked for is missing
	wantNoQuestion(t, question(1, "a", 0, 3))     // and here it is too much
	wantNoQuestion(t, question(1, "a", 0x0100))   // the count's high byte counts
	wantNoQuestion(t, question(1<<24, "a", 0))    // the name's high byte counts
	wantNoQuestion(t, question(1, "a", 1, 3)[:8]) // half a number
	wantNoQuestion(t, []byte("a"))
}

func TestInfo(t *testing.T) {
	for _, size := range []uint64{0, 1, 64, 258, 1 << 32, 0x0102030405060708, math.MaxUint64} {
		for _, tenant := range []uint32{0, 1, math.MaxUint32} {
			number := binary.BigEndian.AppendUint64(nil, size)
			wantBytes(t, "Info", greet.Info(api.Export{Tenant: tenant, Size: size}), join([]byte{0, 0}, number, []byte{0, 109}))
			wantBytes(t, "Info to read", greet.Info(api.Export{Tenant: tenant, Size: size, ReadOnly: true}), join([]byte{0, 0}, number, []byte{0, 111}))
		}
	}
}

func TestBlocks(t *testing.T) {
	for _, block := range []int{64, 128, 512, 4096, 0, 1, 65536, 0x01020304, math.MaxInt32, math.MaxUint32} {
		want := join([]byte{0, 3, 0, 0, 0, 1}, four(uint32(block)), []byte{0, 1, 0, 0})
		wantBytes(t, "Blocks", greet.Blocks(block), want)
		// What does not fit is taken modulo.
		wantBytes(t, "Blocks", greet.Blocks(block+1<<32), want)
		wantBytes(t, "Blocks", greet.Blocks(block-1<<32), want)
	}
	wantBytes(t, "Blocks", greet.Blocks(-1), []byte{0, 3, 0, 0, 0, 1, 255, 255, 255, 255, 0, 1, 0, 0})
	wantBytes(t, "Blocks", greet.Blocks(math.MinInt), []byte{0, 3, 0, 0, 0, 1, 0, 0, 0, 0, 0, 1, 0, 0})
}

func TestOld(t *testing.T) {
	for _, size := range []uint64{0, 1, 258, 0x0102030405060708, math.MaxUint64} {
		number := binary.BigEndian.AppendUint64(nil, size)
		for _, tenant := range []uint32{0, math.MaxUint32} {
			e, r := api.Export{Tenant: tenant, Size: size}, api.Export{Tenant: tenant, Size: size, ReadOnly: true}
			wantBytes(t, "Old, no noughts", greet.Old(e, true), append(number, 0, 109))
			wantBytes(t, "Old to read, no noughts", greet.Old(r, true), append(number, 0, 111))
			wantBytes(t, "Old", greet.Old(e, false), join(number, []byte{0, 109}, make([]byte, 124)))
			wantBytes(t, "Old to read", greet.Old(r, false), join(number, []byte{0, 111}, make([]byte, 124)))
		}
	}
}

// What lies behind a list's length is no part of it, however much memory the list has.
func TestBehindTheLengthIsNotRead(t *testing.T) {
	flags := four(3)
	for n := range flags {
		wantFlags(t, flags[:n], false, 0, api.ErrGreetMore)
	}
	b := option(api.OptGo, 20, someBytes(20))
	for n := range b {
		wantNoOption(t, b[:n], api.ErrGreetMore)
	}
	q := question(4, "name", 2, 3, 4)
	for n := range q {
		wantNoQuestion(t, q[:n])
	}
	data := []byte("abcdef")
	wantBytes(t, "Reply", greet.Reply(0, 0, data[:2])[16:], []byte{0, 0, 0, 2, 'a', 'b'})
}

func TestArgumentsStay(t *testing.T) {
	for _, b := range [][]byte{option(api.OptGo, 20, someBytes(30)), question(4, "name", 2, 3, 4), four(3)} {
		was := bytes.Clone(b)
		for n := range len(b) + 1 {
			greet.Flags(b[:n])
			greet.Next(b[:n])
			greet.Asked(b[:n])
			greet.Reply(1, 2, b[:n])
		}
		wantBytes(t, "the argument", b, was)
	}
}

// overwrite changes all that a list has, behind its length, too.
func overwrite(b []byte) {
	for i := range b[:cap(b)] {
		b[:cap(b)][i] ^= 255
	}
}

func TestAnswersAreNewMemory(t *testing.T) {
	for _, write := range []func() []byte{
		greet.Hello,
		func() []byte { return greet.Reply(1, 2, []byte("abc")) },
		func() []byte { return greet.Reply(1, 2, nil) },
		func() []byte { return greet.Info(api.Export{Size: 5}) },
		func() []byte { return greet.Blocks(64) },
		func() []byte { return greet.Old(api.Export{Size: 5}, true) },
		func() []byte { return greet.Old(api.Export{Size: 5}, false) },
	} {
		first, second := write(), write()
		want := bytes.Clone(first)
		overwrite(second)
		wantBytes(t, "the other answer", first, want)
		wantBytes(t, "the next answer", write(), want)
	}
}

func TestDataIsNewMemory(t *testing.T) {
	for _, n := range []int{0, 1, 20, 1024} {
		b := option(api.OptGo, uint32(n), someBytes(n+30))
		was := bytes.Clone(b)
		first, _, _ := greet.Next(b)
		second, _, _ := greet.Next(b)
		overwrite(second.Data)
		wantBytes(t, "the option's bytes", b, was)
		overwrite(b)
		wantBytes(t, "the data", first.Data, someBytes(n))
	}
	data := []byte("abc")
	reply := greet.Reply(1, 2, data)
	overwrite(reply)
	wantBytes(t, "the reply's data", data, []byte("abc"))
}

func TestQuestionIsNewMemory(t *testing.T) {
	data := question(4, "name", 2, 3, 4)
	name, wants, _ := greet.Asked(data)
	_, other, _ := greet.Asked(data)
	other[0], other[1] = 9, 9
	overwrite(data)
	if name != "name" || !slices.Equal(wants, []uint16{3, 4}) {
		t.Errorf("%q, %d", name, wants)
	}
}

func TestNothingIsKept(t *testing.T) {
	for range 3 {
		wantFlags(t, []byte{0, 0, 0, 3}, true, 4, api.OK)
		wantFlags(t, []byte{0, 0, 0, 1}, false, 4, api.OK)
		wantNext(t, option(7, 2, []byte("abc")), 7, []byte("ab"), 18)
		wantNext(t, option(2, 0, nil), 2, nil, 16)
		wantNoOption(t, option(7, 2000, nil), api.ErrGreetLong)
		wantAsked(t, question(1, "a", 1, 3), "a", []uint16{3})
		wantNoQuestion(t, []byte{1})
	}
}

func FuzzNext(f *testing.F) {
	f.Add([]byte{})
	f.Add(option(2, 0, nil))
	f.Add(option(7, 3, []byte("abcd")))
	f.Add(option(7, 1025, nil))
	f.Fuzz(func(t *testing.T, b []byte) {
		o, n, errno := greet.Next(b)
		if errno != api.OK {
			if o.Kind != 0 || len(o.Data) != 0 || n != 0 || errno < api.ErrGreetMore || errno > api.ErrGreetLong || errno == api.ErrGreetFlags {
				t.Errorf("Next of %x: %v, %d, %d", b, o, n, errno)
			}
			return
		}
		if want := option(o.Kind, uint32(len(o.Data)), o.Data); n != len(want) || !bytes.Equal(b[:n], want) {
			t.Errorf("Next of %x: %v, %d", b, o, n)
		}
	})
}

func FuzzAsked(f *testing.F) {
	f.Add([]byte{})
	f.Add(question(1, "a", 0))
	f.Add(question(3, "abc", 2, 3, 4))
	f.Add(question(256, strings.Repeat("a", 256), 0))
	f.Fuzz(func(t *testing.T, data []byte) {
		name, wants, errno := greet.Asked(data)
		if errno != api.OK {
			if name != "" || len(wants) != 0 || errno != api.ErrGreetForm {
				t.Errorf("Asked of %x: %q, %d, %d", data, name, wants, errno)
			}
			return
		}
		if want := question(uint32(len(name)), name, uint16(len(wants)), wants...); len(name) > 255 || !bytes.Equal(data, want) {
			t.Errorf("Asked of %x: %q, %d", data, name, wants)
		}
	})
}
