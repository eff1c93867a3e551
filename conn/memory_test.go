package conn_test

import (
	"bytes"
	"runtime"
	"testing"

	"coaming/api"
	"coaming/conn"
)

// spoil writes to all memory of bytes, also to what lies behind their length.
func spoil(b []byte) {
	b = b[:cap(b)]
	for i := range b {
		b[i] ^= 0xa5
	}
}

func TestWhatIsFedIsNeitherChangedNorKept(t *testing.T) {
	c, m := made(t)
	b := join(greeting(good()), request(api.Request{Kind: 1, Data: []byte("abcdef")}), reads(1, 18), []byte{9})
	for _, n := range []int{1, 7, 100, 150, 300} {
		piece := bytes.Repeat([]byte{0x77}, n+10)
		copy(piece[5:], b[:n])
		c.Feed(piece[5 : 5+n])
		m.feed(b[:n])
		if !bytes.Equal(piece[5:5+n], b[:n]) || piece[4] != 0x77 || piece[5+n] != 0x77 {
			t.Fatal("what is handed in is changed")
		}
		spoil(piece)
		want(t, "what was handed in is written to", c, m)
		b = b[n:]
	}
	wantFeed(t, c, m, b)
	for range 18 {
		wantTake(t, c, m, 0)
	}
	wantOut(t, c, m)
}

// TestNothingBehindTheLengthIsRead hands in a front of memory that goes on rightly.
func TestNothingBehindTheLengthIsRead(t *testing.T) {
	b := join(greeting(good()), reads(0, 3))
	for n := range len(b) {
		c, m := made(t)
		wantFeed(t, c, m, b[:n])
		wantFeed(t, c, m, []byte("x"))
		wantOut(t, c, m)
	}
}

func TestWhatIsAnsweredIsNeitherChangedNorKept(t *testing.T) {
	c, m := serving(t)
	full := []byte("abcdef")
	r := api.Request{Cookie: 3, Data: full[1:3]}
	wantAnswer(t, c, m, r, 0, full[2:4])
	if string(full) != "abcdef" {
		t.Fatalf("%q", full)
	}
	spoil(full)
	wantSent(t, c, m, nil, answered(0, 3, []byte("cd")), api.ConnServe)
}

func TestWhatIsSentIsNewMemory(t *testing.T) {
	c, m := made(t)
	hello := c.Out()
	m.out = nil
	wantFeed(t, c, m, noNoughts)
	spoil(hello)
	if other := conn.New(table(t), 64).Out(); string(other) != "NBDMAGICIHAVEOPT\x00\x03" {
		t.Fatalf("%q", other)
	}
	c.Feed(option(3, nil))
	first := c.Out()
	c.Feed(option(9, nil))
	second := c.Out()
	if !bytes.Equal(first, reply(3, 1, nil)) || !bytes.Equal(second, reply(9, 1<<31+1, nil)) {
		t.Fatalf("%x, %x", first, second)
	}
	spoil(first)
	if !bytes.Equal(second, reply(9, 1<<31+1, nil)) {
		t.Fatal("what comes out of two calls shares memory")
	}
	spoil(second)
	wantSent(t, c, m, option(3, nil), join(reply(3, 1, nil)), api.ConnOption)
}

func TestWhatWaitsIsToldInNewMemory(t *testing.T) {
	c, m := serving(t)
	for n := range 20 {
		wantFeed(t, c, m, request(api.Request{Kind: 1, Cookie: uint64(n), Data: someBytes(10 + n)}))
	}
	a, b := c.Waits(), c.Waits()
	for i := range a {
		spoil(a[i].Data)
		a[i] = api.Request{Cookie: 99}
	}
	if !sameList(b, m.waits) {
		t.Fatal("lists of two calls share memory")
	}
	want(t, "a list is written to", c, m)
	for range 20 {
		r, is := m.take(0)
		got, ok := c.Take(0)
		if !same(got, r) || ok != is {
			t.Fatal(got, ok)
		}
		spoil(got.Data)
		want(t, "what was taken is written to", c, m)
	}
}

// heap is how many bytes are in use, when those that nobody can reach are gone.
func heap() uint64 {
	var m runtime.MemStats
	runtime.GC()
	runtime.ReadMemStats(&m)
	return m.HeapAlloc
}

func TestWhatWasReadIsNotKept(t *testing.T) {
	const count = 40
	tokens := table(t)
	long := join(greeting(good()), request(api.Request{Kind: 1, Data: make([]byte, 65536)}))
	for name, end := range map[string]func(c *conn.Conn){
		"taken":  func(c *conn.Conn) { c.Take(0) },
		"closed": (*conn.Conn).Close,
		"cut": func(c *conn.Conn) {
			c.Feed(reads(0, 1)[:27])
			c.Take(0)
		},
		"closed with a front of one more": func(c *conn.Conn) {
			c.Feed(request(api.Request{Kind: 1, Data: make([]byte, 65536)})[:60000])
			c.Close()
		},
		"fed when it is closed": func(c *conn.Conn) {
			c.Close()
			c.Feed(make([]byte, 60000))
		},
		"sent": func(c *conn.Conn) {
			r, _ := c.Take(0)
			c.Answer(r, 0, make([]byte, 100000))
			c.Out()
		},
	} {
		before := heap()
		var all []*conn.Conn
		for range count {
			c := conn.New(tokens, 64)
			c.Feed(long)
			end(c)
			all = append(all, c)
		}
		if after := heap(); after > before+count*8192 {
			t.Errorf("%s: %d bytes more than at first", name, after-before)
		}
		runtime.KeepAlive(all)
	}
}

func TestKeptBytesAreNoMuchMoreMemory(t *testing.T) {
	const count = 20
	tokens := table(t)
	b := join(greeting(good()), reads(0, 4600))
	before := heap()
	var all []*conn.Conn
	for range count {
		c := conn.New(tokens, 64)
		c.Feed(b)
		// Half of it is read; then as much comes as may be kept, again and again.
		for range 30 {
			for range 2300 {
				c.Take(0)
			}
			c.Feed(reads(0, 2300))
		}
		if c.State() != api.ConnServe || len(c.Waits()) != 16 {
			t.Fatal(c.State())
		}
		all = append(all, c)
	}
	if after := heap(); after > before+count*4*131072 {
		t.Errorf("%d bytes more than at first", after-before)
	}
	runtime.KeepAlive(all)
}

// What is kept behind a full pipe is not copied for each request that is taken.
func TestTakingCopiesLittle(t *testing.T) {
	c, _ := serving(t)
	c.Feed(reads(0, 4600))
	var before, after runtime.MemStats
	runtime.ReadMemStats(&before)
	for range 4600 {
		if _, is := c.Take(0); !is {
			t.Fatal("none waits")
		}
	}
	runtime.ReadMemStats(&after)
	if spent := after.TotalAlloc - before.TotalAlloc; spent > 4600*4096 {
		t.Errorf("%d bytes", spent)
	}
}
