package conn_test

import (
	"bytes"
	"encoding/binary"
	"slices"
	"testing"

	"coaming/api"
	"coaming/conn"
	"coaming/pass"
)

// What both sides say, by the library and by the chapters' numbers.

var (
	plain     = []byte{0, 0, 0, 1} // flags of a client
	noNoughts = []byte{0, 0, 0, 3}
)

func two(n uint16) []byte   { return binary.BigEndian.AppendUint16(nil, n) }
func four(n uint32) []byte  { return binary.BigEndian.AppendUint32(nil, n) }
func eight(n uint64) []byte { return binary.BigEndian.AppendUint64(nil, n) }

// join is lists, one behind the other.
func join(lists ...[]byte) []byte { return bytes.Join(lists, nil) }

func option(kind uint32, data []byte) []byte {
	return join([]byte("IHAVEOPT"), four(kind), four(uint32(len(data))), data)
}

// question is the data of an option that asks about a name.
func question(name string, wants ...uint16) []byte {
	out := join(four(uint32(len(name))), []byte(name), two(uint16(len(wants))))
	for _, n := range wants {
		out = append(out, two(n)...)
	}
	return out
}

func reply(kind, answer uint32, data []byte) []byte {
	return join([]byte{0, 3, 0xe8, 0x89, 4, 0x55, 0x65, 0xa9}, four(kind), four(answer), four(uint32(len(data))), data)
}

func exportFlags(e api.Export) []byte {
	if e.ReadOnly {
		return two(1 + 2 + 4 + 8 + 32 + 64)
	}
	return two(1 + 4 + 8 + 32 + 64)
}

// told is what stands in the replies to one who asked about an export; blocks: in what sizes it is used, too.
func told(kind uint32, e api.Export, block int, blocks bool) []byte {
	out := reply(kind, 3, join(two(0), eight(e.Size), exportFlags(e)))
	if blocks {
		out = append(out, reply(kind, 3, join(two(3), four(1), four(uint32(block)), four(65536)))...)
	}
	return append(out, reply(kind, 1, nil)...)
}

// old is the answer to who asked the old way.
func old(e api.Export, noNoughts bool) []byte {
	out := join(eight(e.Size), exportFlags(e))
	if noNoughts {
		return out
	}
	return append(out, make([]byte, 124)...)
}

func head(r api.Request, length uint32) []byte {
	return join(four(0x25609513), two(r.Flags), two(r.Kind), eight(r.Cookie), eight(r.Offset), four(length))
}

// request is a request's bytes; a write's length is that of its data.
func request(r api.Request) []byte {
	if r.Kind != 1 {
		return head(r, r.Length)
	}
	return append(head(r, uint32(len(r.Data))), r.Data...)
}

func answered(answer uint32, cookie uint64, data []byte) []byte {
	return join(four(0x67446698), four(answer), eight(cookie), data)
}

// greeting is all that is sent till a connection serves.
func greeting(name string) []byte { return join(noNoughts, option(7, question(name))) }

// Tenants: 1 with a small export and a token that is gone, 2 with another key, 3 with the greatest export.
func tenants() []api.Tenant {
	return []api.Tenant{
		{ID: 1, Key: []byte("k"), Quota: 2, Size: 8, Gone: []uint32{77, 78}},
		{ID: 2, Key: []byte("other"), Quota: 2, Size: 5},
		{ID: 3, Key: []byte("great"), Quota: 1, Size: 1<<64 - 1},
	}
}

func table(t testing.TB) *pass.Table {
	t.Helper()
	out, errno := pass.New(tenants())
	if errno != api.OK {
		t.Fatal(errno)
	}
	return out
}

// issued is a token's text by the key of its tenant, one of tenants.
func issued(token api.Token) string { return pass.Issue(tenants()[token.Tenant-1].Key, token) }

// good is a name that tenant 1 allows, of 4 blocks.
func good() string { return issued(api.Token{Tenant: 1, Serial: 5, Size: 4}) }

// made is a new connection with blocks of 64 bytes, and what the chapter's words say of it.
func made(t testing.TB) (*conn.Conn, *model) { return madeOf(t, 64) }

func madeOf(t testing.TB, block int) (*conn.Conn, *model) {
	t.Helper()
	pass := table(t)
	c, m := conn.New(pass, block), newModel(pass, block)
	if c == nil {
		t.Fatal("New: nil")
	}
	want(t, "New", c, m)
	return c, m
}

// serving is one that serves good's export, with nothing to send.
func serving(t testing.TB) (*conn.Conn, *model) {
	t.Helper()
	c, m := made(t)
	wantFeed(t, c, m, greeting(good()))
	wantOut(t, c, m)
	if c.State() != api.ConnServe {
		t.Fatal("it does not serve:", c.State())
	}
	return c, m
}

// reads are so many requests, of cookies from first on.
func reads(first, count int) []byte {
	var out []byte
	for n := range count {
		out = append(out, request(api.Request{Cookie: uint64(first + n), Offset: uint64(n), Length: 4})...)
	}
	return out
}

// someBytes are n bytes without a short period, the same in every run.
func someBytes(n int) []byte { return numbers(7, n) }

func numbers(seed uint64, count int) []byte {
	out := make([]byte, count)
	for i := range out {
		seed = seed*6364136223846793005 + 1442695040888963407
		out[i] = byte(seed >> 56)
	}
	return out
}

func same(a, b api.Request) bool {
	return a.Flags == b.Flags && a.Kind == b.Kind && a.Cookie == b.Cookie && a.Offset == b.Offset && a.Length == b.Length && bytes.Equal(a.Data, b.Data)
}

func sameList(a, b []api.Request) bool { return slices.EqualFunc(a, b, same) }

// short is the front of bytes, to be told.
func short(b []byte) []byte { return b[:min(len(b), 60)] }

// want asks for all that a connection tells without being changed.
func want(t testing.TB, what string, c *conn.Conn, m *model) {
	t.Helper()
	if got := c.State(); got != m.state {
		t.Fatalf("%s: State: %d, want %d", what, got, m.state)
	}
	if got := c.Export(); got != m.export {
		t.Fatalf("%s: Export: %v, want %v", what, got, m.export)
	}
	if got := c.Waits(); !sameList(got, m.waits) {
		t.Fatalf("%s: %d wait (%.200v), want %d", what, len(got), got, len(m.waits))
	}
}

func wantFeed(t testing.TB, c *conn.Conn, m *model, b []byte) {
	t.Helper()
	c.Feed(b)
	m.feed(b)
	want(t, "Feed", c, m)
}

func wantOut(t testing.TB, c *conn.Conn, m *model) {
	t.Helper()
	if got := c.Out(); !bytes.Equal(got, m.out) {
		t.Fatalf("Out: %d bytes (%x), want %d (%x)", len(got), short(got), len(m.out), short(m.out))
	}
	m.out = nil
	want(t, "Out", c, m)
}

func wantTake(t testing.TB, c *conn.Conn, m *model, k int) {
	t.Helper()
	r, is := m.take(k)
	if got, ok := c.Take(k); !same(got, r) || ok != is {
		t.Fatalf("Take(%d): %.200v, %v, want %.200v, %v", k, got, ok, r, is)
	}
	want(t, "Take", c, m)
}

func wantAnswer(t testing.TB, c *conn.Conn, m *model, r api.Request, answer uint32, data []byte) {
	t.Helper()
	c.Answer(r, answer, data)
	m.answer(r, answer, data)
	want(t, "Answer", c, m)
}

func wantClose(t testing.TB, c *conn.Conn, m *model) {
	t.Helper()
	c.Close()
	m.close()
	want(t, "Close", c, m)
}

// wantSent is that a connection, with nothing else to send, answers bytes so, and stands so then.
func wantSent(t testing.TB, c *conn.Conn, m *model, b, sent []byte, state uint8) {
	t.Helper()
	wantFeed(t, c, m, b)
	if !bytes.Equal(m.out, sent) || c.State() != state {
		t.Fatalf("%x: %x and state %d, want %x, %d", short(b), m.out, c.State(), sent, state)
	}
	wantOut(t, c, m)
}
