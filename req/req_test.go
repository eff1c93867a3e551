package req_test

import (
	"bytes"
	"encoding/binary"
	"maps"
	"math"
	"slices"
	"testing"

	"coaming/api"
	"coaming/req"
)

// The lengths of what stands ahead of the data.
const (
	headBytes  = 28
	replyBytes = 16
)

// every kind that a request may say, the document's and others.
var kinds = []uint16{api.CmdRead, api.CmdWrite, api.CmdDisc, api.CmdFlush, api.CmdTrim, 5, api.CmdZero, 7, 256, 257, math.MaxUint16}

// lots of lengths, whose bytes differ and stand at edges.
var lengths = []uint32{0, 1, 4, 255, 256, 65535, 65536, 65537, 1 << 17, 1 << 24, 0x01020304, math.MaxInt32, 1 << 31, math.MaxUint32}

// front is a request's first bytes, by the library; length may say otherwise than what stands behind.
func front(flags, kind uint16, cookie, offset uint64, length uint32) []byte {
	out := []byte{0x25, 0x60, 0x95, 0x13}
	out = binary.BigEndian.AppendUint16(out, flags)
	out = binary.BigEndian.AppendUint16(out, kind)
	out = binary.BigEndian.AppendUint64(out, cookie)
	out = binary.BigEndian.AppendUint64(out, offset)
	return binary.BigEndian.AppendUint32(out, length)
}

// reply is a reply's bytes, by the library.
func reply(answer uint32, cookie uint64, data []byte) []byte {
	out := []byte{0x67, 0x44, 0x66, 0x98}
	out = binary.BigEndian.AppendUint32(out, answer)
	out = binary.BigEndian.AppendUint64(out, cookie)
	return append(out, data...)
}

// join is lists, one behind the other.
func join(lists ...[]byte) []byte { return bytes.Join(lists, nil) }

// someBytes are n bytes without a short period, the same in every run.
func someBytes(n int) []byte {
	out := make([]byte, n)
	x := uint32(8)
	for i := range out {
		x = x*1664525 + 1013904223
		out[i] = byte(x >> 24)
	}
	return out
}

func same(a, b api.Request) bool {
	return a.Flags == b.Flags && a.Kind == b.Kind && a.Cookie == b.Cookie && a.Offset == b.Offset && a.Length == b.Length && bytes.Equal(a.Data, b.Data)
}

func wantNext(t *testing.T, b []byte, want api.Request, n int) {
	t.Helper()
	if r, got, errno := req.Next(b); errno != api.OK || got != n || !same(r, want) {
		t.Errorf("Next of %d bytes (%x): %d %d %d %d %d, %d of data, %d, %d", len(b), b[:min(len(b), 32)], r.Flags, r.Kind, r.Cookie, r.Offset, r.Length, len(r.Data), got, errno)
	}
}

func wantNoRequest(t *testing.T, b []byte, errno api.Errno) {
	t.Helper()
	if r, n, got := req.Next(b); !same(r, api.Request{}) || n != 0 || got != errno {
		t.Errorf("Next of %d bytes (%x): %v, %d, %d, want error %d alone", len(b), b[:min(len(b), 32)], r, n, got, errno)
	}
}

func wantBytes(t *testing.T, what string, got, want []byte) {
	t.Helper()
	if !bytes.Equal(got, want) {
		t.Errorf("%s: %x, want %x", what, got[:min(len(got), 40)], want[:min(len(want), 40)])
	}
}

func wantReplies(t *testing.T, b []byte, reads map[uint64]uint32, answers []uint32, cookies []uint64, data [][]byte) {
	t.Helper()
	a, c, d, is := req.Replies(b, reads)
	if !is || !slices.Equal(a, answers) || !slices.Equal(c, cookies) || !slices.EqualFunc(d, data, bytes.Equal) {
		t.Errorf("Replies of %d bytes (%x): %d, %d, %x, %v", len(b), b[:min(len(b), 48)], a, c, d, is)
	}
}

func wantNoReplies(t *testing.T, b []byte, reads map[uint64]uint32) {
	t.Helper()
	if a, c, d, is := req.Replies(b, reads); is || len(a) != 0 || len(c) != 0 || len(d) != 0 {
		t.Errorf("Replies of %d bytes (%x): %d, %d, %x, %v, want nothing, false", len(b), b[:min(len(b), 48)], a, c, d, is)
	}
}

func TestExample(t *testing.T) {
	r := api.Request{Kind: api.CmdRead, Cookie: 5, Offset: 8, Length: 4}
	wantNext(t, req.Write(r), r, 28)
	wantReplies(t, req.Reply(0, 5, []byte("abcd")), map[uint64]uint32{5: 4}, []uint32{0}, []uint64{5}, [][]byte{[]byte("abcd")})
}

func TestErrorsAreTheDocuments(t *testing.T) {
	got := []api.Errno{api.ErrReqMore, api.ErrReqMagic, api.ErrReqLong}
	if want := []api.Errno{80, 81, 82}; !slices.Equal(got, want) {
		t.Errorf("%d, want %d", got, want)
	}
}

// The document's numbers, each byte of them in its place.
func TestBytesOfARequest(t *testing.T) {
	r := api.Request{Flags: 0x0102, Kind: 0x0304, Cookie: 0x05060708090a0b0c, Offset: 0x0d0e0f1011121314, Length: 0x15161718}
	b := []byte{0x25, 0x60, 0x95, 0x13, 1, 2, 3, 4, 5, 6, 7, 8, 9, 10, 11, 12, 13, 14, 15, 16, 17, 18, 19, 20, 21, 22, 23, 24}
	wantBytes(t, "Write", req.Write(r), b)
	wantNext(t, b, r, 28)
}

func TestBytesOfAReply(t *testing.T) {
	want := []byte{0x67, 0x44, 0x66, 0x98, 1, 2, 3, 4, 5, 6, 7, 8, 9, 10, 11, 12, 'a', 'b'}
	wantBytes(t, "Reply", req.Reply(0x01020304, 0x05060708090a0b0c, []byte("ab")), want)
}

// Of a command that is no CmdWrite the length is any number, and nothing stands behind.
func TestOtherCommands(t *testing.T) {
	for _, kind := range kinds {
		if kind == api.CmdWrite {
			continue
		}
		for _, flags := range []uint16{0, 1, 256, math.MaxUint16} {
			for _, n := range []uint64{0, 1, 258, 1 << 32, math.MaxInt64, math.MaxUint64} {
				for _, length := range lengths {
					r := api.Request{Flags: flags, Kind: kind, Cookie: n, Offset: ^n, Length: length}
					b := front(flags, kind, n, ^n, length)
					wantBytes(t, "Write", req.Write(r), b)
					wantNext(t, b, r, headBytes)
					wantNext(t, join(b, someBytes(40)), r, headBytes)
				}
			}
		}
	}
}

func TestDataOfOtherCommandsIsNotLookedAt(t *testing.T) {
	for _, kind := range kinds {
		if kind == api.CmdWrite {
			continue
		}
		for _, length := range lengths {
			for _, n := range []int{1, 4, 300, 70000} {
				r := api.Request{Flags: 1, Kind: kind, Cookie: 2, Offset: 3, Length: length, Data: someBytes(n)}
				wantBytes(t, "Write", req.Write(r), front(1, kind, 2, 3, length))
			}
		}
	}
}

// Of a CmdWrite the length is that of Data, whatever Length says.
func TestWriteOfAWrite(t *testing.T) {
	for _, n := range []int{0, 1, 2, 255, 256, 257, 65535, 65536, 65537, 1 << 17, 1<<24 + 1} {
		data := someBytes(n)
		for _, length := range []uint32{0, 1, uint32(n), uint32(n) + 1, math.MaxUint32} {
			r := api.Request{Flags: 1, Kind: api.CmdWrite, Cookie: 1 << 63, Offset: math.MaxUint64, Length: length, Data: data}
			wantBytes(t, "Write", req.Write(r), join(front(1, 1, 1<<63, math.MaxUint64, uint32(n)), data))
		}
	}
}

func TestNextOfAWrite(t *testing.T) {
	mem := someBytes(70000)
	for _, n := range []int{0, 1, 2, 27, 28, 29, 255, 256, 257, 4096, 65534, 65535, 65536} {
		r := api.Request{Flags: 1, Kind: api.CmdWrite, Cookie: 7, Offset: 9, Length: uint32(n), Data: mem[:n]}
		b := front(1, api.CmdWrite, 7, 9, uint32(n))
		wantNext(t, join(b, mem[:n]), r, headBytes+n)
		wantNext(t, join(b, mem), r, headBytes+n)
		for _, fewer := range []int{0, 1, n / 2, n - 2, n - 1} {
			if fewer >= 0 && fewer < n {
				wantNoRequest(t, join(b, mem[:fewer]), api.ErrReqMore)
			}
		}
	}
}

// Only a CmdWrite may be too long, and it is told before its bytes have come.
func TestNextOfTooLong(t *testing.T) {
	long := []uint32{65537, 65538, 1 << 17, 1<<16 | 1<<8, 1 << 31, math.MaxInt32, math.MaxUint32, math.MaxUint32 - 27}
	for bit := 17; bit < 32; bit++ {
		long = append(long, 1<<bit, 1<<bit|1)
	}
	for _, length := range long {
		for _, behind := range []int{0, 1, 65536, 65537, 1<<17 + 1} {
			b := join(front(0, api.CmdWrite, 1, 2, length), make([]byte, behind))
			wantNoRequest(t, b, api.ErrReqLong)
			for _, kind := range kinds {
				if kind != api.CmdWrite {
					binary.BigEndian.PutUint16(b[6:], kind)
					wantNext(t, b, api.Request{Kind: kind, Cookie: 1, Offset: 2, Length: length}, headBytes)
				}
			}
		}
	}
}

func TestNextOfAnotherMagic(t *testing.T) {
	good := join(front(1, api.CmdWrite, 5, 8, 3), []byte("abc"))
	for i := range 4 {
		for bit := range 8 {
			bad := bytes.Clone(good)
			bad[i] ^= 1 << bit
			wantNoRequest(t, bad, api.ErrReqMagic)
			wantNoRequest(t, bad[:28], api.ErrReqMagic)
			wantNoRequest(t, bad[:27], api.ErrReqMore)
		}
	}
	wantNoRequest(t, make([]byte, 28), api.ErrReqMagic)
	wantNoRequest(t, reply(0, 5, make([]byte, 20)), api.ErrReqMagic)
}

// Several faults at once: the one that the promise names first.
func TestOrderOfErrors(t *testing.T) {
	wantNoRequest(t, nil, api.ErrReqMore)
	wantNoRequest(t, []byte{}, api.ErrReqMore)
	wantNoRequest(t, bytes.Repeat([]byte{255}, 27), api.ErrReqMore)
	wantNoRequest(t, bytes.Repeat([]byte{255}, 28), api.ErrReqMagic)
	wantNoRequest(t, front(0, api.CmdWrite, 0, 0, math.MaxUint32)[:27], api.ErrReqMore)
	bad := front(0, api.CmdWrite, 0, 0, 65537)
	wantNoRequest(t, bad, api.ErrReqLong)
	bad[0] = 0
	wantNoRequest(t, bad, api.ErrReqMagic)
	bad = front(0, api.CmdWrite, 0, 0, 65536)
	wantNoRequest(t, bad, api.ErrReqMore)
	bad[3] = 0
	wantNoRequest(t, bad, api.ErrReqMagic)
}

func TestFrontsAndWhatStandsBehind(t *testing.T) {
	for _, whole := range [][]byte{
		front(1, api.CmdRead, 5, 8, 4), front(0, api.CmdDisc, 0, 0, 0), front(0, api.CmdWrite, 0, 0, 0),
		join(front(1, api.CmdWrite, 5, 8, 300), someBytes(300)),
	} {
		r, n, errno := req.Next(whole)
		if errno != api.OK || n != len(whole) {
			t.Fatalf("%x: %d, %d", whole, n, errno)
		}
		for i := range whole {
			wantNoRequest(t, whole[:i], api.ErrReqMore)
			wantNoRequest(t, slices.Clip(bytes.Clone(whole[:i])), api.ErrReqMore)
		}
		for _, behind := range [][]byte{{0}, whole, make([]byte, 28), someBytes(5000)} {
			wantNext(t, join(whole, behind), r, n)
		}
	}
}

// thereAndBack is a request as Next tells it behind Write.
func thereAndBack(r api.Request) api.Request {
	if r.Kind == api.CmdWrite {
		r.Length = uint32(len(r.Data))
	} else {
		r.Data = nil
	}
	return r
}

func TestRequestsOneBehindTheOther(t *testing.T) {
	var all []api.Request
	var b []byte
	for i := range 200 {
		r := api.Request{Flags: uint16(i % 2), Kind: kinds[i%len(kinds)], Cookie: uint64(i) << 40, Offset: uint64(i) * 64, Length: uint32(i), Data: someBytes(i)}
		all = append(all, r)
		b = append(b, req.Write(r)...)
	}
	for _, r := range all {
		wantNext(t, b, thereAndBack(r), len(req.Write(r)))
		_, n, _ := req.Next(b)
		b = b[n:]
	}
	wantNoRequest(t, b, api.ErrReqMore)
}

// Many requests in what came: each is read in the time that itself takes, not the rest.
func TestManyRequests(t *testing.T) {
	b := bytes.Repeat(front(0, api.CmdRead, 1, 2, 3), 1<<16)
	count := 0
	for len(b) > 0 {
		_, n, errno := req.Next(b)
		if errno != api.OK || n != headBytes {
			t.Fatalf("request %d: %d, %d", count, n, errno)
		}
		b = b[n:]
		count++
	}
	if count != 1<<16 {
		t.Errorf("%d requests", count)
	}
}

func TestReply(t *testing.T) {
	for _, answer := range []uint32{api.AnsOK, api.AnsPerm, api.AnsIO, api.AnsInval, api.AnsNoSpc, 256, 1 << 31, math.MaxUint32} {
		for _, cookie := range []uint64{0, 5, 1 << 32, math.MaxInt64, math.MaxUint64} {
			for _, data := range [][]byte{nil, {}, {0}, []byte("abcd"), someBytes(256), someBytes(70000)} {
				wantBytes(t, "Reply", req.Reply(answer, cookie, data), reply(answer, cookie, data))
			}
		}
	}
}

func TestRepliesOfNothing(t *testing.T) {
	for _, reads := range []map[uint64]uint32{nil, {}, {0: 1}, {5: 4}} {
		wantReplies(t, nil, reads, nil, nil, nil)
		wantReplies(t, []byte{}, reads, nil, nil, nil)
	}
}

func TestRepliesOfOne(t *testing.T) {
	for _, cookie := range []uint64{0, 5, 1 << 32, 1<<32 | 5, math.MaxUint64} {
		for _, n := range []int{0, 1, 15, 16, 17, 255, 256, 65535, 65536, 65537, 1 << 20} {
			data := someBytes(n)
			b, reads := reply(0, cookie, data), map[uint64]uint32{cookie: uint32(n), cookie + 1: 7}
			wantReplies(t, b, reads, []uint32{0}, []uint64{cookie}, [][]byte{data})
			wantNoReplies(t, b, map[uint64]uint32{cookie: uint32(n) + 1})
			wantNoReplies(t, append(b, 0), reads)
			if n > 0 {
				wantNoReplies(t, b[:len(b)-1], reads)
				wantNoReplies(t, b, nil)
				wantNoReplies(t, b, map[uint64]uint32{cookie + 1: uint32(n)})
				wantNoReplies(t, b, map[uint64]uint32{cookie: uint32(n) - 1})
			}
		}
	}
}

// Nothing stands behind a reply that says no, nor behind one whose cookie is not known.
func TestRepliesWithoutData(t *testing.T) {
	for _, answer := range []uint32{1, 5, 22, 28, 256, 1 << 31, math.MaxUint32} {
		b := reply(answer, 5, nil)
		for _, reads := range []map[uint64]uint32{nil, {5: 0}, {5: 4}, {5: math.MaxUint32}} {
			wantReplies(t, b, reads, []uint32{answer}, []uint64{5}, [][]byte{nil})
			wantReplies(t, join(b, b), reads, []uint32{answer, answer}, []uint64{5, 5}, [][]byte{nil, nil})
			wantNoReplies(t, join(b, []byte("abcd")), reads)
		}
	}
	for _, reads := range []map[uint64]uint32{nil, {5: 0}, {4: 4, 6: 4}, {5 | 1<<32: 4}, {5 << 32: 4}} {
		wantReplies(t, reply(0, 5, nil), reads, []uint32{0}, []uint64{5}, [][]byte{nil})
		wantNoReplies(t, reply(0, 5, []byte("abcd")), reads)
	}
}

// A length beyond what any list has is asked of the bytes, not of memory.
func TestRepliesOfHugeLengths(t *testing.T) {
	for _, length := range []uint32{1 << 20, math.MaxInt32, 1 << 31, math.MaxUint32 - 15, math.MaxUint32} {
		for _, n := range []int{0, 1, 16, 1000} {
			wantNoReplies(t, reply(0, 5, make([]byte, n)), map[uint64]uint32{5: length})
		}
	}
}

// Two replies with one cookie have as much data each.
func TestRepliesWithOneCookie(t *testing.T) {
	b := join(reply(0, 5, []byte("abcd")), reply(22, 5, nil), reply(0, 5, []byte("efgh")))
	wantReplies(t, b, map[uint64]uint32{5: 4}, []uint32{0, 22, 0}, []uint64{5, 5, 5}, [][]byte{[]byte("abcd"), nil, []byte("efgh")})
	wantNoReplies(t, join(reply(0, 5, []byte("abcd")), reply(0, 5, nil)), map[uint64]uint32{5: 4})
}

// Data that looks like a reply is data, as far as the length goes.
func TestRepliesInData(t *testing.T) {
	inner := reply(0, 6, nil)
	b := reply(0, 5, inner)
	wantReplies(t, b, map[uint64]uint32{5: 16}, []uint32{0}, []uint64{5}, [][]byte{inner})
	wantReplies(t, b, nil, []uint32{0, 0}, []uint64{5, 6}, [][]byte{nil, nil})
}

func TestRepliesOfAnotherMagic(t *testing.T) {
	good, reads := reply(0, 5, []byte("abcd")), map[uint64]uint32{5: 4}
	for i := range 4 {
		for bit := range 8 {
			bad := bytes.Clone(good)
			bad[i] ^= 1 << bit
			wantNoReplies(t, bad, reads)
			wantNoReplies(t, join(good, bad), reads)
			wantNoReplies(t, join(bad, good), reads)
		}
	}
	wantNoReplies(t, make([]byte, 16), nil)
	wantNoReplies(t, front(0, 0, 0, 0, 0), nil)
}

// manyReplies are replies of all kinds, one behind the other, and where each ends.
func manyReplies(n int) (b []byte, reads map[uint64]uint32, answers []uint32, cookies []uint64, data [][]byte, ends []int) {
	reads = map[uint64]uint32{}
	for i := range n {
		answer, cookie, d := uint32(0), uint64(i)<<33|1, someBytes(i*7%50)
		if len(d) > 0 {
			reads[cookie] = uint32(len(d))
		}
		if i%5 == 3 {
			answer, d = api.AnsNoSpc, nil
		}
		answers, cookies, data = append(answers, answer), append(cookies, cookie), append(data, d)
		b = append(b, req.Reply(answer, cookie, d)...)
		ends = append(ends, len(b))
	}
	return b, reads, answers, cookies, data, ends
}

// A front is the replies that end ahead of it, or none where it ends within one.
func TestEveryFrontOfReplies(t *testing.T) {
	b, reads, answers, cookies, data, ends := manyReplies(30)
	ends = append([]int{0}, ends...)
	for n := range len(b) + 1 {
		if i, ended := slices.BinarySearch(ends, n); ended {
			wantReplies(t, b[:n], reads, answers[:i], cookies[:i], data[:i])
		} else {
			wantNoReplies(t, b[:n], reads)
			wantNoReplies(t, slices.Clip(bytes.Clone(b[:n])), reads)
		}
	}
}

func TestManyReplies(t *testing.T) {
	b, reads, answers, cookies, data, _ := manyReplies(1 << 16)
	wantReplies(t, b, reads, answers, cookies, data)
	wantNoReplies(t, b[:len(b)-1], reads)
}

func TestArgumentsStay(t *testing.T) {
	b := join(front(1, api.CmdWrite, 5, 8, 30), someBytes(60))
	was := bytes.Clone(b)
	for n := range len(b) + 1 {
		req.Next(b[:n])
		req.Replies(b[:n], nil)
	}
	wantBytes(t, "what Next was given", b, was)
	b, reads, _, _, _, _ := manyReplies(20)
	was, wasReads := bytes.Clone(b), maps.Clone(reads)
	for n := range len(b) + 1 {
		req.Replies(b[:n], reads)
		req.Next(b[:n])
	}
	wantBytes(t, "what Replies was given", b, was)
	if !maps.Equal(reads, wasReads) {
		t.Errorf("reads: %v, was %v", reads, wasReads)
	}
	data := someBytes(50)
	was = bytes.Clone(data)
	req.Write(api.Request{Kind: api.CmdWrite, Data: data[:20]})
	req.Reply(0, 1, data[:20])
	wantBytes(t, "what Write and Reply were given", data, was)
}

// What lies behind a list's length is no part of it, however much memory the list has.
func TestBehindTheLengthIsNotRead(t *testing.T) {
	data := []byte("abcdef")
	wantBytes(t, "Write", req.Write(api.Request{Kind: api.CmdWrite, Data: data[:2]}), join(front(0, 1, 0, 0, 2), []byte("ab")))
	wantBytes(t, "Reply", req.Reply(0, 1, data[:2]), reply(0, 1, []byte("ab")))
	wantBytes(t, "Write of nothing", req.Write(api.Request{Kind: api.CmdWrite, Data: data[:0]}), front(0, 1, 0, 0, 0))
}

// fill overwrites a list, and what lies behind its length.
func fill(b []byte) {
	b = b[:cap(b)]
	for i := range b {
		b[i] ^= 0xa5
	}
}

func TestAnswersAreNewMemory(t *testing.T) {
	b := join(front(1, api.CmdWrite, 5, 8, 30), someBytes(60))
	was := bytes.Clone(b)
	r, _, _ := req.Next(b)
	again, _, _ := req.Next(b)
	fill(r.Data)
	wantBytes(t, "what Next was given", b, was)
	wantBytes(t, "another answer", again.Data, someBytes(30))
	fill(b)
	wantBytes(t, "an answer whose argument changed", again.Data, someBytes(30))

	b, reads, answers, cookies, data, _ := manyReplies(20)
	was = bytes.Clone(b)
	_, _, got, _ := req.Replies(b, reads)
	for i := range got {
		fill(got[i])
		for j := i + 1; j < len(got); j++ {
			wantBytes(t, "a reply's data beside another's", got[j], data[j])
		}
	}
	wantBytes(t, "what Replies was given", b, was)
	wantReplies(t, b, reads, answers, cookies, data)

	mem := someBytes(20)
	fill(req.Write(api.Request{Kind: api.CmdWrite, Data: mem}))
	fill(req.Write(api.Request{Kind: api.CmdWrite, Data: mem[:0]}))
	fill(req.Reply(0, 1, mem))
	fill(req.Reply(0, 1, mem[:0]))
	wantBytes(t, "what Write and Reply were given", mem, someBytes(20))
	wantBytes(t, "Reply behind another", req.Reply(0, 1, mem), reply(0, 1, mem))
}

// An empty answer of a list with memory must not lead to that memory.
func TestEmptyDataHasNoMemory(t *testing.T) {
	b := join(front(0, api.CmdWrite, 5, 8, 0), someBytes(60))
	if r, _, _ := req.Next(b); cap(r.Data) != 0 {
		t.Errorf("Data of nothing has memory for %d bytes", cap(r.Data))
	}
	_, _, data, _ := req.Replies(reply(0, 5, nil), nil)
	if len(data) != 1 || cap(data[0]) != 0 {
		t.Errorf("%v", data)
	}
}

func FuzzNext(f *testing.F) {
	f.Add([]byte{})
	f.Add(front(1, api.CmdRead, 5, 8, 4))
	f.Add(join(front(1, api.CmdWrite, 5, 8, 3), []byte("abcd")))
	f.Add(front(1, api.CmdWrite, 5, 8, 65537))
	f.Fuzz(func(t *testing.T, b []byte) {
		r, n, errno := req.Next(b)
		want := expected(b)
		if errno != want {
			t.Fatalf("%x: %d, want %d", b, errno, want)
		}
		if errno != api.OK {
			wantNoRequest(t, b, errno)
			return
		}
		wantBytes(t, "Write of Next", req.Write(r), b[:n])
		wantNext(t, b[:n], r, n)
	})
}

// expected is the error that the document asks for.
func expected(b []byte) api.Errno {
	switch {
	case len(b) < 28:
		return api.ErrReqMore
	case binary.BigEndian.Uint32(b) != 0x25609513:
		return api.ErrReqMagic
	case binary.BigEndian.Uint16(b[6:]) != 1:
		return api.OK
	case binary.BigEndian.Uint32(b[24:]) > 65536:
		return api.ErrReqLong
	case len(b)-28 < int(binary.BigEndian.Uint32(b[24:])):
		return api.ErrReqMore
	}
	return api.OK
}

func FuzzReplies(f *testing.F) {
	f.Add([]byte{}, uint64(0), uint32(0))
	f.Add(reply(0, 5, []byte("abcd")), uint64(5), uint32(4))
	f.Add(join(reply(0, 5, []byte("abcd")), reply(22, 5, nil), reply(0, 6, nil)), uint64(5), uint32(4))
	f.Fuzz(func(t *testing.T, b []byte, cookie uint64, length uint32) {
		reads := map[uint64]uint32{cookie: length}
		answers, cookies, data, is := req.Replies(b, reads)
		if !is {
			wantNoReplies(t, b, reads)
			return
		}
		if len(cookies) != len(answers) || len(data) != len(answers) {
			t.Fatalf("%x: %d answers, %d cookies, %d of data", b, len(answers), len(cookies), len(data))
		}
		var back []byte
		for i, answer := range answers {
			want := uint32(0)
			if answer == 0 {
				want = reads[cookies[i]]
			}
			if uint32(len(data[i])) != want {
				t.Errorf("%d of data, want %d", len(data[i]), want)
			}
			back = append(back, req.Reply(answer, cookies[i], data[i])...)
		}
		wantBytes(t, "Reply of Replies", back, b)
	})
}
